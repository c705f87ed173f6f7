/-
  The contracts of group's functions.
-/
import Derived.Test.YtmmicbdjafolpaeGprod
import Derived.Test.YtmmicbdjafolpaeHolds
namespace Go.Proofs.Ytmmicbdjafolpae
open Go.RowKit

/-- A group's four numbers lie in their kind. -/
structure Four (P Q G H : Int) : Prop where
  p0 : 0 ≤ P
  p1 : P ≤ 18446744073709551615
  q0 : 0 ≤ Q
  q1 : Q ≤ 18446744073709551615
  g0 : 0 ≤ G
  g1 : G ≤ 18446744073709551615
  h0 : 0 ≤ H
  h1 : H ≤ 18446744073709551615

theorem gin0 (P Q G H x : Int) (a : Option Addr) (n cap : Nat) (w : World) (q0 : 0 ≤ Q) (q1 : Q ≤ 18446744073709551615) (x1 : x ≤ 18446744073709551615) :
    Calls Try.prog 61 #[gv P Q G H a n cap, .int .u64 x] w fun e w' => e = .returned (.bool (inI P Q x)) ∧ Old w w' := by
  have HW : Hid (∀ o, Old w (w.alloc o)) := fun o => (Old.refl w).alloc o
  by_cases h1 : 1 ≤ x
  · by_cases h2 : x < P
    · have HC : Hid (∀ wx, Calls Try.prog 62 #[.int .u64 x, .int .u64 Q, .int .u64 P] wx fun e w' => e = .returned (.int .u64 (powI x Q P)) ∧ ∃ n, w' = wx.drewN n) := fun wx => pow_any x Q P wx (by omega) x1 q0 q1
      have HE : Hid (inI P Q x = (powI x Q P == 1)) := by unfold Hid inI; simp [h1, h2]
      generalize powI x Q P = y at *
      go_enter Try.func61, Try.ntmps61
      go_wp2_with (go_at_call 62; refine (HC.out _).mono ?_; rintro e w1 ⟨rfl, k1, hw1⟩)
      go_ret
      refine ⟨by rw [HE.out]; rfl, ?_⟩
      first
        | exact (HW.out _).drewN _
        | (rw [hw1]; exact (HW.out _).drewN _)
    · have HE : Hid (inI P Q x = false) := by unfold Hid inI; simp [h2]
      go_enter Try.func61, Try.ntmps61
      go_wp2_with fail
      go_ret
      exact ⟨by rw [HE.out]; rfl, HW.out _⟩
  · have HE : Hid (inI P Q x = false) := by unfold Hid inI; simp [h1]
    go_enter Try.func61, Try.ntmps61
    go_wp2_with fail
    go_ret
    exact ⟨by rw [HE.out]; rfl, HW.out _⟩

theorem gin_any (P Q G H x : Int) (a : Option Addr) (n cap : Nat) (w : World) (h4 : Four P Q G H) (_hr : Righ P Q G) (_x0 : 0 ≤ x) (x1 : x ≤ 18446744073709551615) :
    Calls Try.prog 61 #[gv P Q G H a n cap, .int .u64 x] w fun e w' => e = .returned (.bool (inI P Q x)) ∧ Old w w' := gin0 P Q G H x a n cap w h4.q0 h4.q1 x1

theorem gexp_any (P Q G H x y : Int) (a : Option Addr) (n cap : Nat) (w : World) (_h4 : Four P Q G H) (hr : Righ P Q G) (x0 : 0 ≤ x) (x1 : x ≤ 18446744073709551615) (y0 : 0 ≤ y) (y1 : y ≤ 18446744073709551615) :
    Calls Try.prog 43 #[gv P Q G H a n cap, .int .u64 x, .int .u64 y] w fun e w' => e = .returned (.int .u64 (expI P Q x y)) ∧ Old w w' := by
  have q5 := hr.q0
  have q6 := hr.q1
  have m0 : 0 ≤ y % Q := Int.emod_nonneg _ (by omega)
  have m1 : y % Q < Q := Int.emod_lt_of_pos _ (by omega)
  have HW : Hid (∀ o, Old w (w.alloc o)) := fun o => (Old.refl w).alloc o
  have HE : Hid (expI P Q x y = powI x (y % Q) P) := by unfold Hid expI; rw [if_neg (by omega)]
  have HA : Hid (∀ wx, Calls Try.prog 51 #[.int .u64 y, .int .u64 0, .int .u64 Q] wx fun e w' => e = .returned (.int .u64 (y % Q)) ∧ ∃ n, w' = wx.drewN n) := fun wx => by
    have h := add_any y 0 Q wx y0 y1 (by omega) (by omega)
    rw [addI_yes (okM_of (by omega) (by omega)), Int.add_zero] at h
    exact h
  have HP : Hid (∀ wx, Calls Try.prog 62 #[.int .u64 x, .int .u64 (y % Q), .int .u64 P] wx fun e w' => e = .returned (.int .u64 (expI P Q x y)) ∧ ∃ n, w' = wx.drewN n) := fun wx => by
    rw [HE.out]
    exact pow_any x (y % Q) P wx x0 x1 m0 (by omega)
  generalize expI P Q x y = R at *
  generalize y % Q = z at *
  clear hr q5 q6 m0 m1 HE
  go_enter Try.func43, Try.ntmps43
  go_wp2_with fail
  go_quiet (first
    | (go_at_call 51; exact Calls.quiet_of (HA.out _))
    | (go_at_call 62; exact Calls.quiet_of (HP.out _)))
  go_wp2_with fail
  go_ret
  exact ⟨rfl, (HW.out _).drewN _⟩

def sizesI (P Q : Int) : Bool := decide (5 ≤ Q) && decide (Q < 2305843009213693952) && (P == 2 * Q + 1)
def basesI (P Q G H : Int) : Bool := inI P Q G && inI P Q H && !(G == 1) && !(H == 1) && !(G == H)
theorem right_eq (P Q G H : Int) (N A : Nat → Int) (F : Nat → Nat → Int) (L : Nat → Nat) (n : Nat) : rightI P Q G H N A F L n = (sizesI P Q && basesI P Q G H && provedB N A F L n P && provedB N A F L n Q) := by
  unfold rightI sizesI basesI
  rw [Bool.eq_iff_iff]
  simp only [Bool.and_eq_true]
  constructor
  · rintro ⟨⟨⟨⟨⟨⟨⟨⟨⟨h1, h2⟩, h3⟩, h4⟩, h5⟩, h6⟩, h7⟩, h8⟩, h9⟩, h10⟩
    exact ⟨⟨⟨⟨⟨h1, h2⟩, h3⟩, ⟨⟨⟨h6, h7⟩, h8⟩, h9⟩, h10⟩, h4⟩, h5⟩
  · rintro ⟨⟨⟨⟨⟨h1, h2⟩, h3⟩, ⟨⟨⟨h6, h7⟩, h8⟩, h9⟩, h10⟩, h4⟩, h5⟩
    exact ⟨⟨⟨⟨⟨⟨⟨⟨⟨h1, h2⟩, h3⟩, h4⟩, h5⟩, h6⟩, h7⟩, h8⟩, h9⟩, h10⟩

set_option maxHeartbeats 1000000 in
theorem gprod0 (P Q G H : Int) (a : Option Addr) (n cap : Nat) (b : Option Addr) (len c : Nat) (F : Nat → Int) (w : World) (hl : len ≤ 1152921504606846976) (hin : FacsIn w b len F) :
    Calls Try.prog 42 #[gv P Q G H a n cap, .slice b len c] w fun e w' => e = .returned (.int .u64 (prodI P F len)) ∧ Old w w' := by
  have HI : Hid (FacsIn w b len F) := hin
  clear hin
  go_enter Try.func42, Try.ntmps42
  go_wp2_with fail
  go_loopw [5, 10] (fun nv iv wx => ∃ i : Nat, nv = .int .u64 (prodI P F i) ∧ iv = .int .i64 (i : Int) ∧ i ≤ len ∧ Beh w P Q G H a n cap wx) (fun _ iv _ => len - (intOf iv).toNat)
  case atStart => exact ⟨0, rfl, rfl, Nat.zero_le _, Beh.new ..⟩
  case round =>
    obtain ⟨i, rfl, rfl, hi, hbeh⟩ := hrel
    by_cases hlt : i < len
    · rcases HI.out.old hbeh.old with h0 | ⟨bb, off, rfl, hb, hr⟩
      · omega
      obtain ⟨c0, f0, f1⟩ := hr i hlt
      clear hr
      obtain ⟨m0, m1⟩ := prodI_bd P F i
      have c1 := hbeh.cell (j := 0) rfl
      have HS : Hid (prodI P F (i + 1) = mulI (prodI P F i) (F i) P) := rfl
      have HB : Hid (Beh w P Q G H a n cap wr) := hbeh
      clear hbeh
      generalize prodI P F i = m at *
      go_wp2_with (go_at_call 52; refine (mul_any _ _ _ _ m0 m1 f0 f1).mono ?_; rintro e w1 ⟨rfl, hd⟩)
      go_roundw
      case rel => exact ⟨i + 1, by rw [HS.out], idx_next i, by omega, HB.out.then ((Old.refl _).draws hd)⟩
      case measure => simp [intOf]; omega
    · have he : i = len := by omega
      subst he
      have HB : Hid (Beh w P Q G H a n cap wr) := hbeh
      clear hbeh
      go_wp2_with fail
      go_ret
      exact ⟨rfl, HB.out.old⟩

theorem gprod_any (P Q G H : Int) (a : Option Addr) (n cap : Nat) (b : Option Addr) (len c : Nat) (F : Nat → Int) (w : World) (_h4 : Four P Q G H) (_hr : Righ P Q G) (_hc : len ≤ c) (hl : len ≤ 1152921504606846976) (hin : FacsIn w b len F) :
    Calls Try.prog 42 #[gv P Q G H a n cap, .slice b len c] w fun e w' => e = .returned (.int .u64 (prodI P F len)) ∧ Old w w' := gprod0 P Q G H a n cap b len c F w hl hin

end Go.Proofs.Ytmmicbdjafolpae
