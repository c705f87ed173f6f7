/-
  What a group that is right is: the squares modulo a prime (layer 4): from the plain functions to Gmath's.
  The statements' few (layer 4).
  The document's Prod (layer 4).
  The contracts of prime.Holds, Proved and of the statement's small at this seat.
  The contracts of group's functions.
  Products, powers and quotients of elements, as plain whole numbers (layers 4 and 5).
  Worlds behind a group and a pair (or three) that were laid out (layer 5).
  The contracts of the document's functions of layer 5, and of its quotient (layer 4).
  The contracts of the document's functions of layer 5 (the second part).
  The contracts of the document's crossing (layer 5).
-/
import Derived.Test.YtokhpppealdfmafK10
import Derived.Deep.RegionWith
import Derived.Laws.Tables
import Derived.Laws.Rows
import Derived.Deep.RegionHeld3
namespace Go.Proofs.Ytokhpppealdfmaf
open Go.RowKit

/-- What Right says. -/
structure Righ (P Q G : Int) : Prop where
  two : P = 2 * Q + 1
  q0 : 5 ≤ Q
  q1 : Q < 2305843009213693952
  grp : Grp P.toNat Q.toNat
  gin : inI P Q G = true
  g1 : G ≠ 1

theorem right_righ {P Q G H : Int} {N A : Nat → Int} {F : Nat → Nat → Int} {L : Nat → Nat} {n : Nat} (hA : ∀ i, i < n → 0 ≤ A i) (h : rightI P Q G H N A F L n = true) : Righ P Q G := by
  unfold rightI at h
  simp only [Bool.and_eq_true, decide_eq_true_eq, beq_iff_eq] at h
  obtain ⟨⟨⟨⟨⟨⟨⟨⟨⟨h1, h2⟩, h3⟩, h4⟩, h5⟩, h6⟩, _⟩, h7⟩, _⟩, _⟩ := h
  obtain ⟨_, p, hp, pp, pf⟩ := proved_prim hA h4
  obtain ⟨_, q, hq, qp, _⟩ := proved_prim hA h5
  refine ⟨h3, h1, h2, ?_, h6, by simpa using h7⟩
  have e1 : P.toNat = p := by omega
  have e2 : Q.toNat = q := by omega
  rw [e1, e2]
  exact ⟨by omega, by omega, pp, qp, pf⟩

theorem Righ.ok {P Q G : Int} (h : Righ P Q G) : okM P = true := by
  have := h.two; have := h.q0; have := h.q1
  exact okM_of (by omega) (by omega)
theorem Righ.pow {P Q G : Int} (h : Righ P Q G) {x e : Int} (hx : 0 ≤ x) : powI x e P = ((x.toNat ^ e.toNat % P.toNat : Nat) : Int) := by
  have := h.two; have := h.q0
  rw [powI_yes h.ok, Int.natCast_emod, Int.natCast_pow, Int.toNat_of_nonneg hx, Int.toNat_of_nonneg (by omega)]
theorem Righ.elm {P Q G : Int} (h : Righ P Q G) {x : Int} (hx : 0 ≤ x) : inI P Q x = elm P.toNat Q.toNat x.toNat := by
  have h2 := h.two; have h5 := h.q0
  rw [Bool.eq_iff_iff, inI_iff, elm_iff, h.pow hx]
  omega
theorem Righ.lay {P Q G : Int} (h : Righ P Q G) {k : Int} (hk : 0 ≤ k) (hq : k < Q) : layI P Q k = (layN P.toNat Q.toNat k.toNat : Nat) := by
  have h2 := h.two; have h5 := h.q0; have h6 := h.q1
  have e := h.elm (x := k + 1) (by omega)
  rw [show (k + 1).toNat = k.toNat + 1 by omega] at e
  unfold layI layN
  rw [if_neg (by omega), e]
  split
  · omega
  · rw [Int.emod_eq_of_lt (by omega) (by omega)]
    omega
theorem Righ.back {P Q G : Int} (h : Righ P Q G) {x : Int} (hx : inI P Q x = true) : backI P Q x = (backN P.toNat Q.toNat x.toNat : Nat) := by
  have h2 := h.two; have h5 := h.q0; have h6 := h.q1
  obtain ⟨x0, x1, _⟩ := inI_iff.1 hx
  unfold backI backN
  rw [if_pos hx]
  by_cases hq : x ≤ Q
  · rw [if_pos hq, if_pos (by omega)]
    omega
  · rw [if_neg hq, if_neg (by omega), Int.emod_eq_of_lt (by omega) (by omega)]
    omega
/-- What is laid is an element, and is taken back. -/
theorem Righ.lay_back {P Q G : Int} (h : Righ P Q G) {k : Int} (hk : 0 ≤ k) (hq : k < Q) : inI P Q (layI P Q k) = true ∧ backI P Q (layI P Q k) = k := by
  have h1 : inI P Q (layI P Q k) = true := by
    rw [h.lay hk hq, h.elm (by omega)]
    exact h.grp.lay_in (by omega)
  refine ⟨h1, ?_⟩
  rw [h.back h1, h.lay hk hq, Int.toNat_natCast, h.grp.back_lay (by omega)]
  omega
/-- What is taken back is laid on it. -/
theorem Righ.back_lay {P Q G : Int} (h : Righ P Q G) {x : Int} (hx : inI P Q x = true) : 0 ≤ backI P Q x ∧ backI P Q x < Q ∧ layB Q (backI P Q x) = true ∧ layI P Q (backI P Q x) = x := by
  obtain ⟨x0, x1, _⟩ := inI_iff.1 hx
  have he : Go.Proofs.Ytokhpppealdfmaf.elm P.toNat Q.toNat x.toNat = true := by rw [← h.elm (by omega)]; exact hx
  have hl := h.grp.back_lt he
  have h0 : 0 ≤ backI P Q x := by rw [h.back hx]; omega
  have h1 : backI P Q x < Q := by rw [h.back hx]; omega
  refine ⟨h0, h1, by unfold layB; simp; omega, ?_⟩
  rw [h.lay h0 h1, h.back hx, Int.toNat_natCast, h.grp.lay_back he]
  omega
/-- Powers of G. -/
theorem Righ.powers {P Q G : Int} (h : Righ P Q G) {i j : Int} (hi : 0 ≤ i) (hij : i < j) (hj : j < Q) : expI P Q G i ≠ expI P Q G j := by
  have h2 := h.two; have h5 := h.q0
  obtain ⟨x0, x1, _⟩ := inI_iff.1 h.gin
  have he : Go.Proofs.Ytokhpppealdfmaf.elm P.toNat Q.toNat G.toNat = true := by rw [← h.elm (by omega)]; exact h.gin
  unfold expI
  rw [if_neg (by omega), if_neg (by omega), Int.emod_eq_of_lt hi (by omega), Int.emod_eq_of_lt (by omega) hj, h.pow (by omega), h.pow (by omega)]
  have := h.grp.powers he (by have := h.g1; omega) (i := i.toNat) (j := j.toNat) (by omega) (by omega)
  omega
theorem Righ.count {P Q G : Int} (h : Righ P Q G) : (cnt P.toNat Q.toNat P.toNat : Int) = Q := by
  have h5 := h.q0
  rw [h.grp.count]
  omega

end Go.Proofs.Ytokhpppealdfmaf

namespace Go.Proofs.Ytokhpppealdfmaf
open Go.RowKit

/-- Up to 80 rows of up to 40 factors. -/
def fewB (L : Nat → Nat) (n : Nat) : Bool := decide (n ≤ 80) && (List.range n).all fun i => decide (L i ≤ 40)
theorem fewB_iff {L : Nat → Nat} {n : Nat} : fewB L n = true ↔ n ≤ 80 ∧ ∀ i, i < n → L i ≤ 40 := by
  unfold fewB
  simp [List.all_eq_true]

end Go.Proofs.Ytokhpppealdfmaf

namespace Go.Proofs.Ytokhpppealdfmaf
open Go.RowKit

/-- A product. -/
def prodI (P : Int) (F : Nat → Int) : Nat → Int
  | 0 => 1
  | k + 1 => mulI (prodI P F k) (F k) P
theorem prodI_bd (P : Int) (F : Nat → Int) : ∀ k, 0 ≤ prodI P F k ∧ prodI P F k ≤ 18446744073709551615
  | 0 => by show (0 : Int) ≤ 1 ∧ (1 : Int) ≤ _; omega
  | k + 1 => by
    have := mulI_bd (prodI P F k) (F k) P
    show 0 ≤ mulI _ _ _ ∧ mulI _ _ _ ≤ _
    omega

set_option maxHeartbeats 1000000 in
theorem rprod_any (P Q G H : Int) (a : Option Addr) (n cap : Nat) (b : Option Addr) (len c : Nat) (F : Nat → Int) (w : World) (hl : len ≤ 1152921504606846976) (hin : FacsIn w b len F) :
    Calls Try.prog 66 #[gv P Q G H a n cap, .slice b len c] w fun e w' => e = .returned (.int .u64 (prodI P F len)) ∧ Old w w' := by
  have HI : Hid (FacsIn w b len F) := hin
  clear hin
  go_enter Try.func66, Try.ntmps66
  go_wp2_with fail
  go_loopw [5, 6] (fun nv iv wx => ∃ i : Nat, nv = .int .u64 (prodI P F i) ∧ iv = .int .i64 (i : Int) ∧ i ≤ len ∧ Beh w P Q G H a n cap wx) (fun _ iv _ => len - (intOf iv).toNat)
  case atStart => exact ⟨0, rfl, rfl, Nat.zero_le _, Beh.new ..⟩
  case round =>
    obtain ⟨i, rfl, rfl, hi, hbeh⟩ := hrel
    by_cases hlt : i < len
    · rcases HI.out.old hbeh.old with h0 | ⟨bb, off, rfl, hb, hr⟩
      · omega
      obtain ⟨c0, f0, f1⟩ := hr i hlt
      clear hr
      obtain ⟨m0, m1⟩ := prodI_bd P F i
      have c1 := hbeh.cell (j := 0) rfl
      have HS : Hid (prodI P F (i + 1) = mulI (prodI P F i) (F i) P) := rfl
      have HB : Hid (Beh w P Q G H a n cap wr) := hbeh
      clear hbeh
      generalize prodI P F i = m at *
      go_wp2_with fail
      go_quiet ((go_at_call 71; exact Calls.quiet_of (rmul_any _ _ _ _ m0 m1 f0 f1)))
      go_wp2_with fail
      go_roundw
      case rel => exact ⟨i + 1, by rw [HS.out], idx_next i, by omega, HB.out.then ((Old.refl _).drewN _)⟩
      case measure => simp [intOf]; omega
    · have he : i = len := by omega
      subst he
      have HB : Hid (Beh w P Q G H a n cap wr) := hbeh
      clear hbeh
      go_wp2_with fail
      go_ret
      exact ⟨rfl, HB.out.old⟩

end Go.Proofs.Ytokhpppealdfmaf

namespace Go.Proofs.Ytokhpppealdfmaf
open Go.RowKit

theorem proved_eq (N A : Nat → Int) (F : Nat → Nat → Int) (L : Nat → Nat) (n : Nat) (x : Int) : provedB N A F L n x = (holdsB N A F L n && namedB N n x) := rfl

/-- Up to 80 rows of up to 40 factors. -/
def smallB (L : Nat → Nat) (n : Nat) : Bool := decide (n ≤ 80) && (List.range n).all fun i => decide (L i ≤ 40)
theorem smallB_iff {L : Nat → Nat} {n : Nat} : smallB L n = true ↔ n ≤ 80 ∧ ∀ i, i < n → L i ≤ 40 := by
  unfold smallB
  simp [List.all_eq_true]

end Go.Proofs.Ytokhpppealdfmaf

namespace Go.Proofs.Ytokhpppealdfmaf
open Go.RowKit

/-- A group's four numbers lie in their kind. -/
structure Four (P Q G H : Int) : Prop where
  p0 : 0 ≤ P
  p1 : P ≤ 18446744073709551615
  q0 : 0 ≤ Q
  q1 : Q ≤ 18446744073709551615
  g0 : 0 ≤ G
  g1 : G ≤ 18446744073709551615
  h0 : 0 ≤ H
  h1 : H ≤ 18446744073709551615

theorem gin0 (P Q G H x : Int) (a : Option Addr) (n cap : Nat) (w : World) (q0 : 0 ≤ Q) (q1 : Q ≤ 18446744073709551615) (x1 : x ≤ 18446744073709551615) :
    Calls Try.prog 76 #[gv P Q G H a n cap, .int .u64 x] w fun e w' => e = .returned (.bool (inI P Q x)) ∧ Old w w' := by
  have HW : Hid (∀ o, Old w (w.alloc o)) := fun o => (Old.refl w).alloc o
  by_cases h1 : 1 ≤ x
  · by_cases h2 : x < P
    · have HC : Hid (∀ wx, Calls Try.prog 77 #[.int .u64 x, .int .u64 Q, .int .u64 P] wx fun e w' => e = .returned (.int .u64 (powI x Q P)) ∧ ∃ n, w' = wx.drewN n) := fun wx => pow_any x Q P wx (by omega) x1 q0 q1
      have HE : Hid (inI P Q x = (powI x Q P == 1)) := by unfold Hid inI; simp [h1, h2]
      generalize powI x Q P = y at *
      go_enter Try.func76, Try.ntmps76
      go_wp2_with (go_at_call 77; refine (HC.out _).mono ?_; rintro e w1 ⟨rfl, k1, hw1⟩)
      go_ret
      refine ⟨by rw [HE.out]; rfl, ?_⟩
      first
        | exact (HW.out _).drewN _
        | (rw [hw1]; exact (HW.out _).drewN _)
    · have HE : Hid (inI P Q x = false) := by unfold Hid inI; simp [h2]
      go_enter Try.func76, Try.ntmps76
      go_wp2_with fail
      go_ret
      exact ⟨by rw [HE.out]; rfl, HW.out _⟩
  · have HE : Hid (inI P Q x = false) := by unfold Hid inI; simp [h1]
    go_enter Try.func76, Try.ntmps76
    go_wp2_with fail
    go_ret
    exact ⟨by rw [HE.out]; rfl, HW.out _⟩

theorem gin_any (P Q G H x : Int) (a : Option Addr) (n cap : Nat) (w : World) (h4 : Four P Q G H) (_hr : Righ P Q G) (_x0 : 0 ≤ x) (x1 : x ≤ 18446744073709551615) :
    Calls Try.prog 76 #[gv P Q G H a n cap, .int .u64 x] w fun e w' => e = .returned (.bool (inI P Q x)) ∧ Old w w' := gin0 P Q G H x a n cap w h4.q0 h4.q1 x1

theorem gexp_any (P Q G H x y : Int) (a : Option Addr) (n cap : Nat) (w : World) (_h4 : Four P Q G H) (hr : Righ P Q G) (x0 : 0 ≤ x) (x1 : x ≤ 18446744073709551615) (y0 : 0 ≤ y) (y1 : y ≤ 18446744073709551615) :
    Calls Try.prog 54 #[gv P Q G H a n cap, .int .u64 x, .int .u64 y] w fun e w' => e = .returned (.int .u64 (expI P Q x y)) ∧ Old w w' := by
  have q5 := hr.q0
  have q6 := hr.q1
  have m0 : 0 ≤ y % Q := Int.emod_nonneg _ (by omega)
  have m1 : y % Q < Q := Int.emod_lt_of_pos _ (by omega)
  have HW : Hid (∀ o, Old w (w.alloc o)) := fun o => (Old.refl w).alloc o
  have HE : Hid (expI P Q x y = powI x (y % Q) P) := by unfold Hid expI; rw [if_neg (by omega)]
  have HA : Hid (∀ wx, Calls Try.prog 47 #[.int .u64 y, .int .u64 0, .int .u64 Q] wx fun e w' => e = .returned (.int .u64 (y % Q)) ∧ ∃ n, w' = wx.drewN n) := fun wx => by
    have h := add_any y 0 Q wx y0 y1 (by omega) (by omega)
    rw [addI_yes (okM_of (by omega) (by omega)), Int.add_zero] at h
    exact h
  have HP : Hid (∀ wx, Calls Try.prog 77 #[.int .u64 x, .int .u64 (y % Q), .int .u64 P] wx fun e w' => e = .returned (.int .u64 (expI P Q x y)) ∧ ∃ n, w' = wx.drewN n) := fun wx => by
    rw [HE.out]
    exact pow_any x (y % Q) P wx x0 x1 m0 (by omega)
  generalize expI P Q x y = R at *
  generalize y % Q = z at *
  clear hr q5 q6 m0 m1 HE
  go_enter Try.func54, Try.ntmps54
  go_wp2_with fail
  go_quiet (first
    | (go_at_call 47; exact Calls.quiet_of (HA.out _))
    | (go_at_call 77; exact Calls.quiet_of (HP.out _)))
  go_wp2_with fail
  go_ret
  exact ⟨rfl, (HW.out _).drewN _⟩

def sizesI (P Q : Int) : Bool := decide (5 ≤ Q) && decide (Q < 2305843009213693952) && (P == 2 * Q + 1)
def basesI (P Q G H : Int) : Bool := inI P Q G && inI P Q H && !(G == 1) && !(H == 1) && !(G == H)
theorem right_eq (P Q G H : Int) (N A : Nat → Int) (F : Nat → Nat → Int) (L : Nat → Nat) (n : Nat) : rightI P Q G H N A F L n = (sizesI P Q && basesI P Q G H && provedB N A F L n P && provedB N A F L n Q) := by
  unfold rightI sizesI basesI
  rw [Bool.eq_iff_iff]
  simp only [Bool.and_eq_true]
  constructor
  · rintro ⟨⟨⟨⟨⟨⟨⟨⟨⟨h1, h2⟩, h3⟩, h4⟩, h5⟩, h6⟩, h7⟩, h8⟩, h9⟩, h10⟩
    exact ⟨⟨⟨⟨⟨h1, h2⟩, h3⟩, ⟨⟨⟨h6, h7⟩, h8⟩, h9⟩, h10⟩, h4⟩, h5⟩
  · rintro ⟨⟨⟨⟨⟨h1, h2⟩, h3⟩, ⟨⟨⟨h6, h7⟩, h8⟩, h9⟩, h10⟩, h4⟩, h5⟩
    exact ⟨⟨⟨⟨⟨⟨⟨⟨⟨h1, h2⟩, h3⟩, h4⟩, h5⟩, h6⟩, h7⟩, h8⟩, h9⟩, h10⟩

set_option maxHeartbeats 1000000 in
theorem gprod0 (P Q G H : Int) (a : Option Addr) (n cap : Nat) (b : Option Addr) (len c : Nat) (F : Nat → Int) (w : World) (hl : len ≤ 1152921504606846976) (hin : FacsIn w b len F) :
    Calls Try.prog 75 #[gv P Q G H a n cap, .slice b len c] w fun e w' => e = .returned (.int .u64 (prodI P F len)) ∧ Old w w' := by
  have HI : Hid (FacsIn w b len F) := hin
  clear hin
  go_enter Try.func75, Try.ntmps75
  go_wp2_with fail
  go_loopw [5, 10] (fun nv iv wx => ∃ i : Nat, nv = .int .u64 (prodI P F i) ∧ iv = .int .i64 (i : Int) ∧ i ≤ len ∧ Beh w P Q G H a n cap wx) (fun _ iv _ => len - (intOf iv).toNat)
  case atStart => exact ⟨0, rfl, rfl, Nat.zero_le _, Beh.new ..⟩
  case round =>
    obtain ⟨i, rfl, rfl, hi, hbeh⟩ := hrel
    by_cases hlt : i < len
    · rcases HI.out.old hbeh.old with h0 | ⟨bb, off, rfl, hb, hr⟩
      · omega
      obtain ⟨c0, f0, f1⟩ := hr i hlt
      clear hr
      obtain ⟨m0, m1⟩ := prodI_bd P F i
      have c1 := hbeh.cell (j := 0) rfl
      have HS : Hid (prodI P F (i + 1) = mulI (prodI P F i) (F i) P) := rfl
      have HB : Hid (Beh w P Q G H a n cap wr) := hbeh
      clear hbeh
      generalize prodI P F i = m at *
      go_wp2_with (go_at_call 48; refine (mul_any _ _ _ _ m0 m1 f0 f1).mono ?_; rintro e w1 ⟨rfl, hd⟩)
      go_roundw
      case rel => exact ⟨i + 1, by rw [HS.out], idx_next i, by omega, HB.out.then ((Old.refl _).draws hd)⟩
      case measure => simp [intOf]; omega
    · have he : i = len := by omega
      subst he
      have HB : Hid (Beh w P Q G H a n cap wr) := hbeh
      clear hbeh
      go_wp2_with fail
      go_ret
      exact ⟨rfl, HB.out.old⟩

theorem gprod_any (P Q G H : Int) (a : Option Addr) (n cap : Nat) (b : Option Addr) (len c : Nat) (F : Nat → Int) (w : World) (_h4 : Four P Q G H) (_hr : Righ P Q G) (_hc : len ≤ c) (hl : len ≤ 1152921504606846976) (hin : FacsIn w b len F) :
    Calls Try.prog 75 #[gv P Q G H a n cap, .slice b len c] w fun e w' => e = .returned (.int .u64 (prodI P F len)) ∧ Old w w' := gprod0 P Q G H a n cap b len c F w hl hin

end Go.Proofs.Ytokhpppealdfmaf

namespace Go.Proofs.Ytokhpppealdfmaf
open Go.RowKit

theorem Righ.p11 {P Q G : Int} (h : Righ P Q G) : 11 ≤ P := by have := h.two; have := h.q0; omega
theorem Righ.ppos {P Q G : Int} (h : Righ P Q G) : 0 < P := by have := h.p11; omega
theorem Righ.in_iff {P Q G x : Int} (h : Righ P Q G) : inI P Q x = true ↔ 1 ≤ x ∧ x < P ∧ x ^ Q.toNat % P = 1 := by
  rw [inI_iff, powI_yes h.ok]
theorem Righ.one_mod {P Q G : Int} (h : Righ P Q G) : (1 : Int) % P = 1 := by
  have := h.p11
  exact Int.emod_eq_of_lt (by omega) (by omega)
theorem Righ.in_mod {P Q G z : Int} (h : Righ P Q G) (hz : z ^ Q.toNat % P = 1) : inI P Q (z % P) = true := by
  have hp := h.ppos
  have h0 := Int.emod_nonneg z (show P ≠ 0 by omega)
  have h1 := Int.emod_lt_of_pos z hp
  have hc : (z % P) ^ Q.toNat % P = 1 := by rw [cong_pow (mod_self z P) Q.toNat, hz]
  refine h.in_iff.2 ⟨?_, h1, hc⟩
  rcases Int.lt_or_le 0 (z % P) with hl | hl
  · omega
  · have e : z % P = 0 := by omega
    rw [e, show Q.toNat = (Q.toNat - 1) + 1 by have := h.q0; omega, Int.pow_succ] at hc
    simp at hc
theorem Righ.one_in {P Q G : Int} (h : Righ P Q G) : inI P Q 1 = true := by
  have := h.in_mod (z := 1) (by rw [Int.one_pow]; exact h.one_mod)
  rwa [h.one_mod] at this
theorem Righ.lt {P Q G x : Int} (h : Righ P Q G) (hx : inI P Q x = true) : 0 ≤ x ∧ x < P := by
  obtain ⟨a, b, _⟩ := h.in_iff.1 hx
  omega
theorem Righ.self {P Q G x : Int} (h : Righ P Q G) (hx : inI P Q x = true) : x % P = x := Int.emod_eq_of_lt (h.lt hx).1 (h.lt hx).2
theorem Righ.mul_in {P Q G x y : Int} (h : Righ P Q G) (hx : inI P Q x = true) (hy : inI P Q y = true) : inI P Q (mulI x y P) = true := by
  rw [mulI_yes h.ok]
  refine h.in_mod ?_
  rw [Int.mul_pow, cong_mul (b := 1) (d := 1) (by rw [(h.in_iff.1 hx).2.2, h.one_mod]) (by rw [(h.in_iff.1 hy).2.2, h.one_mod])]
  exact h.one_mod
theorem mul_cong {P x y a b : Int} (h : okM P = true) (hx : x % P = a % P) (hy : y % P = b % P) : mulI x y P % P = a * b % P := by
  rw [mulI_yes h, mod_self]
  exact cong_mul hx hy
/-- A power of an element hangs on the exponent modulo Q alone. -/
theorem Righ.exp_cong {P Q G x e : Int} (h : Righ P Q G) (hx : inI P Q x = true) (he : 0 ≤ e) : expI P Q x e % P = x ^ e.toNat % P := by
  have hq := h.q0
  unfold expI
  rw [if_neg (by omega), powI_yes h.ok, mod_self]
  have hd := Int.emod_add_mul_ediv e Q
  have r0 := Int.emod_nonneg e (show Q ≠ 0 by omega)
  have d0 := Int.ediv_nonneg he (show 0 ≤ Q by omega)
  have hn : e.toNat = (e % Q).toNat + Q.toNat * (e / Q).toNat := by
    apply Int.ofNat.inj
    show (e.toNat : Int) = (((e % Q).toNat + Q.toNat * (e / Q).toNat : Nat) : Int)
    rw [Int.natCast_add, Int.natCast_mul, Int.toNat_of_nonneg he, Int.toNat_of_nonneg r0, Int.toNat_of_nonneg d0, Int.toNat_of_nonneg (by omega)]
    exact hd.symm
  rw [hn, Int.pow_add, Int.pow_mul]
  have hk : (x ^ Q.toNat) ^ (e / Q).toNat % P = 1 % P := by
    rw [cong_pow (b := 1) (by rw [(h.in_iff.1 hx).2.2, h.one_mod]) _, Int.one_pow]
  have := cong_mul (a := x ^ (e % Q).toNat) (b := x ^ (e % Q).toNat) rfl hk
  rw [Int.mul_one] at this
  exact this.symm
theorem Righ.exp_in {P Q G x e : Int} (h : Righ P Q G) (hx : inI P Q x = true) : inI P Q (expI P Q x e) = true := by
  have hq := h.q0
  unfold expI
  rw [if_neg (by omega), powI_yes h.ok]
  refine h.in_mod ?_
  rw [← Int.pow_mul, Nat.mul_comm, Int.pow_mul, cong_pow (b := 1) (by rw [(h.in_iff.1 hx).2.2, h.one_mod]) _, Int.one_pow]
  exact h.one_mod
/-- A product as it is, not taken modulo anything. -/
def pr (F : Nat → Int) : Nat → Int
  | 0 => 1
  | k + 1 => pr F k * F k
theorem prod_cong {P : Int} (h : okM P = true) (F : Nat → Int) : ∀ k, prodI P F k % P = pr F k % P
  | 0 => rfl
  | k + 1 => by
    show mulI (prodI P F k) (F k) P % P = pr F k * F k % P
    exact mul_cong h (prod_cong h F k) rfl
theorem Righ.prod_in {P Q G : Int} (h : Righ P Q G) {F : Nat → Int} : ∀ k, (∀ i, i < k → inI P Q (F i) = true) → inI P Q (prodI P F k) = true
  | 0, _ => h.one_in
  | k + 1, hF => h.mul_in (h.prod_in k fun i hi => hF i (by omega)) (hF k (by omega))
theorem prod_two {P a b : Int} (h : okM P = true) {F : Nat → Int} (h0 : F 0 = a) (h1 : F 1 = b) : prodI P F 2 = mulI a b P := by
  show mulI (mulI 1 (F 0) P) (F 1) P = _
  rw [h0, h1, mulI_yes h, mulI_yes h, mulI_yes h, Int.one_mul]
  exact cong_mul (mod_self a P) rfl
/-- What makes 1 of an element is an element. -/
theorem Righ.inv {P Q G y : Int} (h : Righ P Q G) (hy : inI P Q y = true) : invB y P = true ∧ inI P Q (invI y P) = true ∧ y * invI y P % P = 1 := by
  have hp := h.ppos
  have hq := h.q0
  have e1 : y * (y ^ (Q.toNat - 1) % P) % P = 1 := by
    rw [cong_mul (a := y) (b := y) rfl (mod_self (y ^ (Q.toNat - 1)) P), Int.mul_comm, ← Int.pow_succ, show (Q.toNat - 1).succ = Q.toNat by omega]
    exact (h.in_iff.1 hy).2.2
  obtain ⟨b1, b2⟩ := inv_has h.ok (Int.emod_nonneg _ (by omega)) (Int.emod_lt_of_pos _ hp) e1
  refine ⟨b1, ?_, by rw [b2]; exact e1⟩
  rw [b2]
  refine h.in_mod ?_
  rw [← Int.pow_mul, Nat.mul_comm, Int.pow_mul, cong_pow (b := 1) (by rw [(h.in_iff.1 hy).2.2, h.one_mod]) _, Int.one_pow]
  exact h.one_mod
/-- A quotient. -/
def overI (P x y : Int) : Int := mulI x (invI y P) P
theorem Righ.over_cong {P Q G y : Int} (h : Righ P Q G) (hy : inI P Q y = true) (x : Int) : overI P x y * y % P = x % P := by
  unfold overI
  have h1 := mul_cong (x := x) (y := invI y P) (a := x) (b := invI y P) h.ok rfl rfl
  have h2 := cong_mul (c := y) (d := y) h1 rfl
  rw [h2, Int.mul_assoc, Int.mul_comm (invI y P) y]
  have := cong_mul (a := x) (b := x) (c := y * invI y P) (d := 1) (m := P) rfl (by rw [(h.inv hy).2.2, h.one_mod])
  rw [this, Int.mul_one]
theorem Righ.over_in {P Q G x y : Int} (h : Righ P Q G) (hx : inI P Q x = true) (hy : inI P Q y = true) : inI P Q (overI P x y) = true := h.mul_in hx (h.inv hy).2.1
theorem overI_lt {P x y : Int} (h : okM P = true) : 0 ≤ overI P x y ∧ overI P x y < P := by
  unfold overI
  rw [mulI_yes h]
  exact mod_bd _ h
theorem Righ.cancel {P Q G y a b : Int} (h : Righ P Q G) (hy : inI P Q y = true) (hab : a * y % P = b * y % P) : a % P = b % P := by
  have key : ∀ z : Int, z * y * invI y P % P = z % P := fun z => by
    rw [Int.mul_assoc]
    have := cong_mul (a := z) (b := z) (c := y * invI y P) (d := 1) (m := P) rfl (by rw [(h.inv hy).2.2, h.one_mod])
    rw [this, Int.mul_one]
  rw [← key a, ← key b]
  exact cong_mul hab rfl
theorem Righ.over_is {P Q G v x y : Int} (h : Righ P Q G) (hy : inI P Q y = true) (h0 : 0 ≤ v) (h1 : v < P) (hv : v * y % P = x % P) : overI P x y = v := by
  have e := h.cancel hy ((h.over_cong hy x).trans hv.symm)
  obtain ⟨o0, o1⟩ := overI_lt (x := x) (y := y) h.ok
  rwa [Int.emod_eq_of_lt o0 o1, Int.emod_eq_of_lt h0 h1] at e
/-- Two numbers below P that leave the same. -/
theorem same_of {P a b : Int} (a0 : 0 ≤ a) (a1 : a < P) (b0 : 0 ≤ b) (b1 : b < P) (h : a % P = b % P) : a = b := by
  rwa [Int.emod_eq_of_lt a0 a1, Int.emod_eq_of_lt b0 b1] at h
theorem mulI_lt {P x y : Int} (h : okM P = true) : 0 ≤ mulI x y P ∧ mulI x y P < P := by
  rw [mulI_yes h]
  exact mod_bd _ h

/-- Sealed again by one draw and then by another. -/
theorem Righ.again_add {P Q G u y r s : Int} (h : Righ P Q G) (hy : inI P Q y = true) (hr : 0 ≤ r) (hs : 0 ≤ s) :
    mulI (mulI u (expI P Q y r) P) (expI P Q y s) P = mulI u (expI P Q y (r + s)) P := by
  refine same_of (mulI_lt h.ok).1 (mulI_lt h.ok).2 (mulI_lt h.ok).1 (mulI_lt h.ok).2 ?_
  rw [mul_cong h.ok (mul_cong h.ok rfl (h.exp_cong hy hr)) (h.exp_cong hy hs), mul_cong h.ok rfl (h.exp_cong hy (by omega)), Int.toNat_add hr hs, Int.pow_add, Int.mul_assoc]
theorem Righ.again_none {P Q G u y e : Int} (h : Righ P Q G) (hu : inI P Q u = true) (he : e % Q = 0) : mulI u (expI P Q y e) P = u := by
  have hq := h.q0
  unfold expI
  rw [if_neg (by omega), he, powI_yes h.ok]
  show mulI u (y ^ 0 % P) P = u
  rw [Int.pow_zero, h.one_mod, mulI_yes h.ok, Int.mul_one]
  exact h.self hu
/-- What a number of draws make of a sum. -/
def sm (X : Nat → Int) : Nat → Nat
  | 0 => 0
  | k + 1 => sm X k + (X k).toNat
theorem Righ.keys_cong {P Q G u : Int} (h : Righ P Q G) (hu : inI P Q u = true) (X : Nat → Int) : ∀ k, (∀ i, i < k → 0 ≤ X i) → prodI P (fun i => expI P Q u (X i)) k % P = u ^ sm X k % P
  | 0, _ => by
    show (1 : Int) % P = u ^ 0 % P
    rw [Int.pow_zero]
  | k + 1, hX => by
    show mulI (prodI P (fun i => expI P Q u (X i)) k) (expI P Q u (X k)) P % P = u ^ (sm X k + (X k).toNat) % P
    rw [mul_cong h.ok (h.keys_cong hu X k fun i hi => hX i (by omega)) (h.exp_cong hu (hX k (by omega))), Int.pow_add]
/-- What is sealed opens. -/
theorem Righ.opens {P Q G m u v y p : Int} {R S : Nat} (h : Righ P Q G) (hm : inI P Q m = true) (hu : u % P = G ^ R % P) (hv : v % P = m * y ^ R % P) (hy : y % P = G ^ S % P) (hp : p % P = u ^ S % P) (hpi : inI P Q p = true) : overI P v p = m := by
  refine h.over_is hpi (h.lt hm).1 (h.lt hm).2 ?_
  have e1 : m * p % P = m * (G ^ R) ^ S % P := cong_mul rfl (hp.trans (cong_pow hu S))
  have e2 : v % P = m * (G ^ S) ^ R % P := hv.trans (cong_mul rfl (cong_pow hy R))
  rw [e1, e2, ← Int.pow_mul, ← Int.pow_mul, Nat.mul_comm]

end Go.Proofs.Ytokhpppealdfmaf

namespace Go.Proofs.Ytokhpppealdfmaf
open Go.RowKit

abbrev pv (u v : Int) : Value := .agg #[.int .u64 u, .int .u64 v]
abbrev tv (u m v : Int) : Value := .agg #[.int .u64 u, .int .u64 m, .int .u64 v]
/-- Numbers of the kind. -/
def U64 (x : Int) : Prop := 0 ≤ x ∧ x ≤ 18446744073709551615
theorem u64_mul (x y P : Int) : U64 (mulI x y P) := by have := mulI_bd x y P; unfold U64; omega
theorem u64_exp (P Q x e : Int) : U64 (expI P Q x e) := by
  unfold U64 expI
  split
  · omega
  · have := powI_bd x (e % Q) P
    omega
theorem u64_over (P x y : Int) : U64 (overI P x y) := u64_mul _ _ _
theorem u64_prod (P : Int) (F : Nat → Int) (k : Nat) : U64 (prodI P F k) := prodI_bd P F k

/-- Blocks that were there are as they were; behind them blocks of cells were laid out. -/
structure Lain (w : World) (l : List (Array Value × TypeId)) (W : World) : Prop where
  old : Old w W
  row : ∀ i (h : i < l.length), W.heap[w.heap.size + i]? = some (.cells (l[i]).1 (l[i]).2 (0, 0))
  size : w.heap.size + l.length ≤ W.heap.size
theorem Lain.nil (w : World) : Lain w [] w := ⟨Old.refl w, fun i h => by simp at h, by simp⟩
theorem Lain.add {w W : World} {l : List (Array Value × TypeId)} (h : Lain w l W) (he : W.heap.size = w.heap.size + l.length) (c : Array Value) (t : TypeId) : Lain w (l ++ [(c, t)]) (W.alloc (.cells c t)) := by
  refine ⟨h.old.alloc _, fun i hi => ?_, by simp [he]; omega⟩
  simp only [World.alloc]
  rw [Array.getElem?_push]
  by_cases hl : i < l.length
  · rw [if_neg (by omega), h.row i hl]
    simp [List.getElem_append_left hl]
  · have : i = l.length := by simp at hi; omega
    subst this
    rw [if_pos (by omega)]
    simp
theorem Lain.then {w W W' : World} {l : List (Array Value × TypeId)} (h : Lain w l W) (k : Old W W') : Lain w l W' :=
  ⟨h.old.trans k, fun i hi => (k.block _ (by have := h.size; omega)).trans (h.row i hi), Nat.le_trans h.size k.size⟩
theorem Lain.cell {w W : World} {l : List (Array Value × TypeId)} (h : Lain w l W) (i j : Nat) (hi : i < l.length) {v : Value} (hv : (l[i]).1[j]? = some v) : W.cell? ⟨w.heap.size + i, j, none⟩ = some v := by
  have := h.row i hi
  rw [cell_of_row _ _ j _ _ (0, 0) this]
  exact hv
theorem lain1 (w : World) (c : Array Value) (t : TypeId) : Lain w [(c, t)] (w.alloc (.cells c t)) := (Lain.nil w).add (by simp) c t
theorem lain2 (w : World) (c d : Array Value) (t s : TypeId) : Lain w [(c, t), (d, s)] ((w.alloc (.cells c t)).alloc (.cells d s)) := (lain1 w c t).add (by simp) d s
theorem lain3 (w : World) (c d e : Array Value) (t s r : TypeId) : Lain w [(c, t), (d, s), (e, r)] (((w.alloc (.cells c t)).alloc (.cells d s)).alloc (.cells e r)) := (lain2 w c d t s).add (by simp) e r
abbrev gc (P Q G H : Int) (a : Option Addr) (n cap : Nat) : Array Value := #[.int .u64 P, .int .u64 Q, .int .u64 G, .int .u64 H, .slice a n cap]
abbrev pc (u v : Int) : Array Value := #[.int .u64 u, .int .u64 v]
abbrev tc (u m v : Int) : Array Value := #[.int .u64 u, .int .u64 m, .int .u64 v]

theorem set_row {W : World} {b : Nat} {c : Array Value} {t : TypeId} (h : W.heap[b]? = some (.cells c t (0, 0))) (j : Nat) (v : Value) : (W.setCell ⟨b, j, none⟩ v).heap[b]? = some (.cells (c.setIfInBounds j v) t (0, 0)) := by
  simp [World.setCell, Array.getElem?_modify, h]
theorem row_frozen {W : World} {b : Nat} {c : Array Value} {t : TypeId} (h : W.heap[b]? = some (.cells c t (0, 0))) (j : Nat) : W.frozen? ⟨b, j, none⟩ = false := by
  simp [World.frozen?, h]
theorem cell_far {W : World} {b k i j : Nat} {x v : Value} (hne : k ≠ b) (h : W.cell? ⟨k, j, none⟩ = some v) : (W.setCell ⟨b, i, none⟩ x).cell? ⟨k, j, none⟩ = some v := by
  rw [World.cell?_setCell_other _ _ _ _ (fun e => hne (congrArg Addr.block e).symm)]
  exact h
theorem load_two {P : Program} {W : World} {b : Nat} {p q x y : Value} {t ty : TypeId} {fs : Array Field} (h : W.heap[b]? = some (.cells #[p, q] t (0, 0))) (hu : P.underlying ty = some (.struct fs)) (hi : (P.info? ty).map (·.size) = some 2) :
    (loadVar ty ⟨b, 0, none⟩).run P ((W.setCell ⟨b, 0, none⟩ x).setCell ⟨b, 1, none⟩ y) = .ok (.agg #[x, y]) ((W.setCell ⟨b, 0, none⟩ x).setCell ⟨b, 1, none⟩ y) :=
  run_loadVar_row _ b t ty #[x, y] (0, 0) _ (by have := set_row (set_row h 0 x) 1 y; simpa using this) hu rfl hi
theorem load_three {P : Program} {W : World} {b : Nat} {p q r x y z : Value} {t ty : TypeId} {fs : Array Field} (h : W.heap[b]? = some (.cells #[p, q, r] t (0, 0))) (hu : P.underlying ty = some (.struct fs)) (hi : (P.info? ty).map (·.size) = some 3) :
    (loadVar ty ⟨b, 0, none⟩).run P (((W.setCell ⟨b, 0, none⟩ x).setCell ⟨b, 1, none⟩ y).setCell ⟨b, 2, none⟩ z) = .ok (.agg #[x, y, z]) (((W.setCell ⟨b, 0, none⟩ x).setCell ⟨b, 1, none⟩ y).setCell ⟨b, 2, none⟩ z) :=
  run_loadVar_row _ b t ty #[x, y, z] (0, 0) _ (by have := set_row (set_row (set_row h 0 x) 1 y) 2 z; simpa using this) hu rfl hi
theorem result5 {P : Program} {fn : Func} {s : Tmp} {t : TypeId} {tmps : Array Value} {w : World} {b : Nat} {v : Value} (h : fn.results = #[.cell s t]) (hp : tmps[s]? = some (.pointer (some ⟨b, 0, none⟩))) (hl : (loadVar t ⟨b, 0, none⟩).run P w = .ok v w) : (results fn tmps).run P w = .ok v w := by
  simp [results, h, hp, asAddr, hl]
theorem info_pair : (Try.prog.info? 58).map (·.size) = some 2 := by kernel_rfl
theorem info_three : (Try.prog.info? 62).map (·.size) = some 3 := by kernel_rfl

/-- Two numbers, laid out as a list. -/
def two5 (x y : Int) : Nat → Int | 0 => x | _ => y
theorem facs_two (w : World) (x y : Int) (t : TypeId) (hx : U64 x) (hy : U64 y) : FacsIn (w.alloc (.cells #[.int .u64 x, .int .u64 y] t)) (some ⟨w.heap.size, 0, none⟩) 2 (two5 x y) := by
  refine Or.inr ⟨_, _, rfl, by simp, fun j hj => ?_⟩
  match j, hj with
  | 0, _ => exact ⟨(World.cell?_alloc_mark w _ t (0, 0) 0).trans rfl, hx.1, hx.2⟩
  | 1, _ => exact ⟨(World.cell?_alloc_mark w _ t (0, 0) 1).trans rfl, hy.1, hy.2⟩
theorem prod5 {P Q G : Int} (h : Righ P Q G) (x y : Int) : prodI P (two5 x y) 2 = mulI x y P := prod_two h.ok rfl rfl

end Go.Proofs.Ytokhpppealdfmaf

namespace Go.Proofs.Ytokhpppealdfmaf
open Go.RowKit

theorem inI_bd5 {P Q G y : Int} (h : Righ P Q G) (hy : inI P Q y = true) : 0 ≤ y ∧ y ≤ 18446744073709551615 := by
  have := h.lt hy; have := h.two; have := h.q1
  omega

theorem rover_any (P Q G H : Int) (a : Option Addr) (n cap : Nat) (x y : Int) (w : World) (hx : U64 x) (hy : U64 y) :
    Calls Try.prog 63 #[gv P Q G H a n cap, .int .u64 x, .int .u64 y] w fun e w' => e = .returned (.int .u64 (overI P x y)) ∧ Old w w' := by
  have HI : Hid (∀ wx, Beh w P Q G H a n cap wx → Calls Try.prog 82 #[.int .u64 y, .int .u64 P] wx fun e w' => e = .returned (.tuple #[.int .u64 (invI y P), .bool (invB y P)]) ∧ Beh w P Q G H a n cap w') :=
    fun wx hb => (rinv_any y P wx hy.1 hy.2).mono fun e w' ⟨h, k⟩ => ⟨h, hb.then ((Old.refl _).draws k)⟩
  have HM : Hid (∀ wx, Beh w P Q G H a n cap wx → Calls Try.prog 71 #[.int .u64 x, .int .u64 (invI y P), .int .u64 P] wx fun e w' => e = .returned (.int .u64 (overI P x y)) ∧ Beh w P Q G H a n cap w') :=
    fun wx hb => (rmul_any x (invI y P) P wx hx.1 hx.2 (by have := invI_bd y P; omega) (by have := invI_bd y P; omega)).mono fun e w' ⟨h, k⟩ => ⟨h, hb.then ((Old.refl _).draws k)⟩
  have HN : Hid (∀ t, Beh w P Q G H a n cap (w.alloc (go P Q G H a n cap t))) := fun t => Beh.new ..
  have HF : Hid (∀ w', Beh w P Q G H a n cap w' → w'.cell? ⟨w.heap.size, 0, none⟩ = some (.int .u64 P)) := fun _ h => h.cell rfl
  have HO : Hid (∀ w', Beh w P Q G H a n cap w' → Old w w') := fun _ h => h.old
  generalize overI P x y = z at *
  generalize invI y P = i at *
  generalize invB y P = ib at *
  clear hx hy
  go_enter Try.func63, Try.ntmps63
  go_wp2_with (first
    | (go_at_call 82; refine (HI.out _ (by first | exact HN.out _ | assumption)).mono ?_; rintro e w1 ⟨rfl, hb1⟩; have d0 := HF.out _ hb1)
    | (go_at_call 71; refine (HM.out _ (by first | exact HN.out _ | assumption)).mono ?_; rintro e w2 ⟨rfl, hb2⟩))
  go_ret
  exact ⟨rfl, HO.out _ (by assumption)⟩

set_option maxHeartbeats 4000000 in
theorem ragain_any (P Q G H : Int) (a : Option Addr) (n cap : Nat) (y u v r : Int) (w : World) (h4 : Four P Q G H) (hr : Righ P Q G) (hy : U64 y) (hu : U64 u) (hv : U64 v) (hrr : U64 r) :
    Calls Try.prog 65 #[gv P Q G H a n cap, .int .u64 y, pv u v, .int .u64 r] w fun e w' => e = .returned (pv (mulI u (expI P Q G r) P) (mulI v (expI P Q y r) P)) ∧ Old w w' := by
  have HE : Hid (∀ x e wx, U64 x → U64 e → Lain w [(gc P Q G H a n cap, 25), (pc u v, 58), (pc 0 0, 58)] wx → Calls Try.prog 64 #[gv P Q G H a n cap, .int .u64 x, .int .u64 e] wx fun r w' => r = .returned (.int .u64 (expI P Q x e)) ∧ Lain w [(gc P Q G H a n cap, 25), (pc u v, 58), (pc 0 0, 58)] w') :=
    fun x e wx hx he hb => (rexp_any P Q G H x e a n cap wx h4.q1 hx.1 hx.2 he.1 he.2).mono fun r w' ⟨h, k⟩ => ⟨h, hb.then k⟩
  have HP : Hid (∀ x y t wx, U64 x → U64 y → Lain w [(gc P Q G H a n cap, 25), (pc u v, 58), (pc 0 0, 58)] wx → Calls Try.prog 66 #[gv P Q G H a n cap, .slice (some ⟨wx.heap.size, 0, none⟩) 2 2] (wx.alloc (.cells #[.int .u64 x, .int .u64 y] t)) fun r w' => r = .returned (.int .u64 (mulI x y P)) ∧ Lain w [(gc P Q G H a n cap, 25), (pc u v, 58), (pc 0 0, 58)] w') :=
    fun x y t wx hx hy hb => (rprod_any P Q G H a n cap _ 2 2 _ _ (by decide) (facs_two wx x y t hx hy)).mono fun r w' ⟨h, k⟩ => ⟨by rw [h, prod5 hr], hb.then (((Old.refl _).alloc _).trans k)⟩
  have HD : Hid (∀ wx, Lain w [(gc P Q G H a n cap, 25), (pc u v, 58), (pc 0 0, 58)] wx → Lain w [(gc P Q G H a n cap, 25), (pc u v, 58), (pc 0 0, 58)] wx.drew) := fun _ h => h.then (Old.refl _).drew
  have HO : Hid (∀ wx, Lain w [(gc P Q G H a n cap, 25), (pc u v, 58), (pc 0 0, 58)] wx → Old w wx) := fun _ h => h.old
  have hG : U64 G := ⟨h4.g0, h4.g1⟩
  have HF : Hid (∀ w', Lain w [(gc P Q G H a n cap, 25), (pc u v, 58), (pc 0 0, 58)] w' → w'.cell? ⟨w.heap.size, 0, none⟩ = some (.int .u64 P) ∧ w'.cell? ⟨w.heap.size, 1, none⟩ = some (.int .u64 Q) ∧ w'.cell? ⟨w.heap.size, 2, none⟩ = some (.int .u64 G) ∧ w'.cell? ⟨w.heap.size, 3, none⟩ = some (.int .u64 H) ∧ w'.cell? ⟨w.heap.size, 4, none⟩ = some (.slice a n cap) ∧ w'.cell? ⟨w.heap.size + 1, 0, none⟩ = some (.int .u64 u) ∧ w'.cell? ⟨w.heap.size + 1, 1, none⟩ = some (.int .u64 v)) := fun _ h => ⟨h.cell 0 0 (by simp) rfl, h.cell 0 1 (by simp) rfl, h.cell 0 2 (by simp) rfl, h.cell 0 3 (by simp) rfl, h.cell 0 4 (by simp) rfl, h.cell 1 0 (by simp) rfl, h.cell 1 1 (by simp) rfl⟩
  have HZ := lain3 w (gc P Q G H a n cap) (pc u v) (pc 0 0) 25 58 58
  clear h4 hr
  go_enter Try.func65, Try.ntmps65
  go_upto_region 1 with fail
  generalize hW : ((w.alloc (.cells (gc P Q G H a n cap) 25)).alloc (.cells (pc u v) 58)).alloc (.cells (pc 0 0) 58) = W at *
  clear hW
  obtain ⟨d0, d1, d2, d3, d4, e0, e1⟩ := HF.out _ HZ
  go_region_held3 (fun w' => w'.cell? ⟨w.heap.size, 0, none⟩ = some (.int .u64 P) ∧ w'.cell? ⟨w.heap.size, 1, none⟩ = some (.int .u64 Q) ∧ w'.cell? ⟨w.heap.size, 2, none⟩ = some (.int .u64 G) ∧ w'.cell? ⟨w.heap.size, 3, none⟩ = some (.int .u64 H) ∧ w'.cell? ⟨w.heap.size, 4, none⟩ = some (.slice a n cap) ∧ w'.cell? ⟨w.heap.size + 1, 0, none⟩ = some (.int .u64 u) ∧ w'.cell? ⟨w.heap.size + 1, 1, none⟩ = some (.int .u64 v)) (first | go_keep | exact HF.out _ (by assumption)) (first
    | (go_at_call 64; refine (HE.out _ _ _ (by assumption) (by assumption) (by first | assumption | exact HD.out _ (by assumption))).mono ?_; rintro e w1 ⟨rfl, hb⟩)
    | (go_at_call 66; refine (HP.out _ _ _ _ (by assumption) (by first | assumption | exact u64_exp _ _ _ _) (by first | assumption | exact HD.out _ (by assumption))).mono ?_; rintro e w2 ⟨rfl, hb⟩))
  clear d0 d1 d2 d3 d4 e0 e1
  obtain ⟨d0, d1, d2, d3, d4, e0, e1⟩ := HF.out _ hb
  go_upto_region 2 with fail
  go_region_held3 (fun w' => w'.cell? ⟨w.heap.size, 0, none⟩ = some (.int .u64 P) ∧ w'.cell? ⟨w.heap.size, 1, none⟩ = some (.int .u64 Q) ∧ w'.cell? ⟨w.heap.size, 2, none⟩ = some (.int .u64 G) ∧ w'.cell? ⟨w.heap.size, 3, none⟩ = some (.int .u64 H) ∧ w'.cell? ⟨w.heap.size, 4, none⟩ = some (.slice a n cap) ∧ w'.cell? ⟨w.heap.size + 1, 0, none⟩ = some (.int .u64 u) ∧ w'.cell? ⟨w.heap.size + 1, 1, none⟩ = some (.int .u64 v)) (first | go_keep | exact HF.out _ (by assumption)) (first
    | (go_at_call 64; refine (HE.out _ _ _ (by assumption) (by assumption) (by first | assumption | exact HD.out _ (by assumption))).mono ?_; rintro e w3 ⟨rfl, hb⟩)
    | (go_at_call 66; refine (HP.out _ _ _ _ (by assumption) (by first | assumption | exact u64_exp _ _ _ _) (by first | assumption | exact HD.out _ (by assumption))).mono ?_; rintro e w4 ⟨rfl, hb⟩))
  have hrow := hb.row 2 (by simp)
  have q0 := cell_of_row _ _ 0 _ _ (0, 0) hrow
  have q1 := cell_of_row _ _ 1 _ _ (0, 0) hrow
  have f0 := row_frozen hrow 0
  have f1 := row_frozen hrow 1
  have HL : Hid (Old w w4) := hb.old
  have HR : Hid (w4.heap[w.heap.size + 2]? = some (.cells #[.int .u64 0, .int .u64 0] 58 (0, 0))) := hrow
  simp at q0 q1
  clear hrow
  go_wp2_with fail
  exact bodyPost_ret (result5 (b := w.heap.size + 2) rfl rfl (load_two HR.out Try.underlying58 info_pair)) rfl ⟨rfl, (HL.out.setCell (by simp; omega) _).setCell (by simp; omega) _⟩

end Go.Proofs.Ytokhpppealdfmaf

namespace Go.Proofs.Ytokhpppealdfmaf
open Go.RowKit

theorem rkey_any (P Q G H : Int) (a : Option Addr) (n cap : Nat) (x : Int) (w : World) (h4 : Four P Q G H) (hr : Righ P Q G) (hx : U64 x) :
    Calls Try.prog 38 #[gv P Q G H a n cap, .int .u64 x] w fun e w' => e = .returned (.int .u64 (expI P Q G x)) ∧ Old w w' := by
  have HE : Hid (∀ x e wx, U64 x → U64 e → Lain w [(gc P Q G H a n cap, 25)] wx → Calls Try.prog 64 #[gv P Q G H a n cap, .int .u64 x, .int .u64 e] wx fun r w' => r = .returned (.int .u64 (expI P Q x e)) ∧ Lain w [(gc P Q G H a n cap, 25)] w') :=
    fun x e wx hx he hb => (rexp_any P Q G H x e a n cap wx h4.q1 hx.1 hx.2 he.1 he.2).mono fun r w' ⟨h, k⟩ => ⟨h, hb.then k⟩
  have HP : Hid (∀ x y t wx, U64 x → U64 y → Lain w [(gc P Q G H a n cap, 25)] wx → Calls Try.prog 66 #[gv P Q G H a n cap, .slice (some ⟨wx.heap.size, 0, none⟩) 2 2] (wx.alloc (.cells #[.int .u64 x, .int .u64 y] t)) fun r w' => r = .returned (.int .u64 (mulI x y P)) ∧ Lain w [(gc P Q G H a n cap, 25)] w') :=
    fun x y t wx hx hy hb => (rprod_any P Q G H a n cap _ 2 2 _ _ (by decide) (facs_two wx x y t hx hy)).mono fun r w' ⟨h, k⟩ => ⟨by rw [h, prod5 hr], hb.then (((Old.refl _).alloc _).trans k)⟩
  have HD : Hid (∀ wx, Lain w [(gc P Q G H a n cap, 25)] wx → Lain w [(gc P Q G H a n cap, 25)] wx.drew) := fun _ h => h.then (Old.refl _).drew
  have HO : Hid (∀ wx, Lain w [(gc P Q G H a n cap, 25)] wx → Old w wx) := fun _ h => h.old
  have HF : Hid (∀ w', Lain w [(gc P Q G H a n cap, 25)] w' → w'.cell? ⟨w.heap.size, 0, none⟩ = some (.int .u64 P) ∧ w'.cell? ⟨w.heap.size, 1, none⟩ = some (.int .u64 Q) ∧ w'.cell? ⟨w.heap.size, 2, none⟩ = some (.int .u64 G) ∧ w'.cell? ⟨w.heap.size, 3, none⟩ = some (.int .u64 H) ∧ w'.cell? ⟨w.heap.size, 4, none⟩ = some (.slice a n cap)) := fun _ h => ⟨h.cell 0 0 (by simp) rfl, h.cell 0 1 (by simp) rfl, h.cell 0 2 (by simp) rfl, h.cell 0 3 (by simp) rfl, h.cell 0 4 (by simp) rfl⟩
  have hG : U64 G := ⟨h4.g0, h4.g1⟩
  have HZ := lain1 w (gc P Q G H a n cap) 25
  obtain ⟨d0_0, d0_1, d0_2, d0_3, d0_4⟩ := HF.out _ HZ
  clear h4 hr HP
  go_enter Try.func38, Try.ntmps38
  go_wp2_with (go_at_call 64; refine (HE.out _ _ _ hG hx HZ).mono ?_; rintro e w1 ⟨rfl, hb⟩)
  go_ret
  exact ⟨rfl, HO.out _ hb⟩

theorem rshare_any (P Q G H : Int) (a : Option Addr) (n cap : Nat) (x u v : Int) (w : World) (h4 : Four P Q G H) (hr : Righ P Q G) (hx : U64 x) (hu : U64 u) :
    Calls Try.prog 42 #[gv P Q G H a n cap, .int .u64 x, pv u v] w fun e w' => e = .returned (.int .u64 (expI P Q u x)) ∧ Old w w' := by
  have HE : Hid (∀ x e wx, U64 x → U64 e → Lain w [(gc P Q G H a n cap, 25), (pc u v, 58)] wx → Calls Try.prog 64 #[gv P Q G H a n cap, .int .u64 x, .int .u64 e] wx fun r w' => r = .returned (.int .u64 (expI P Q x e)) ∧ Lain w [(gc P Q G H a n cap, 25), (pc u v, 58)] w') :=
    fun x e wx hx he hb => (rexp_any P Q G H x e a n cap wx h4.q1 hx.1 hx.2 he.1 he.2).mono fun r w' ⟨h, k⟩ => ⟨h, hb.then k⟩
  have HP : Hid (∀ x y t wx, U64 x → U64 y → Lain w [(gc P Q G H a n cap, 25), (pc u v, 58)] wx → Calls Try.prog 66 #[gv P Q G H a n cap, .slice (some ⟨wx.heap.size, 0, none⟩) 2 2] (wx.alloc (.cells #[.int .u64 x, .int .u64 y] t)) fun r w' => r = .returned (.int .u64 (mulI x y P)) ∧ Lain w [(gc P Q G H a n cap, 25), (pc u v, 58)] w') :=
    fun x y t wx hx hy hb => (rprod_any P Q G H a n cap _ 2 2 _ _ (by decide) (facs_two wx x y t hx hy)).mono fun r w' ⟨h, k⟩ => ⟨by rw [h, prod5 hr], hb.then (((Old.refl _).alloc _).trans k)⟩
  have HD : Hid (∀ wx, Lain w [(gc P Q G H a n cap, 25), (pc u v, 58)] wx → Lain w [(gc P Q G H a n cap, 25), (pc u v, 58)] wx.drew) := fun _ h => h.then (Old.refl _).drew
  have HO : Hid (∀ wx, Lain w [(gc P Q G H a n cap, 25), (pc u v, 58)] wx → Old w wx) := fun _ h => h.old
  have HF : Hid (∀ w', Lain w [(gc P Q G H a n cap, 25), (pc u v, 58)] w' → w'.cell? ⟨w.heap.size, 0, none⟩ = some (.int .u64 P) ∧ w'.cell? ⟨w.heap.size, 1, none⟩ = some (.int .u64 Q) ∧ w'.cell? ⟨w.heap.size, 2, none⟩ = some (.int .u64 G) ∧ w'.cell? ⟨w.heap.size, 3, none⟩ = some (.int .u64 H) ∧ w'.cell? ⟨w.heap.size, 4, none⟩ = some (.slice a n cap) ∧ w'.cell? ⟨w.heap.size + 1, 0, none⟩ = some (.int .u64 u) ∧ w'.cell? ⟨w.heap.size + 1, 1, none⟩ = some (.int .u64 v)) := fun _ h => ⟨h.cell 0 0 (by simp) rfl, h.cell 0 1 (by simp) rfl, h.cell 0 2 (by simp) rfl, h.cell 0 3 (by simp) rfl, h.cell 0 4 (by simp) rfl, h.cell 1 0 (by simp) rfl, h.cell 1 1 (by simp) rfl⟩
  have HZ := lain2 w (gc P Q G H a n cap) (pc u v) 25 58
  obtain ⟨d0_0, d0_1, d0_2, d0_3, d0_4, d1_0, d1_1⟩ := HF.out _ HZ
  clear h4 hr HP
  go_enter Try.func42, Try.ntmps42
  go_wp2_with (go_at_call 64; refine (HE.out _ _ _ hu hx HZ).mono ?_; rintro e w1 ⟨rfl, hb⟩)
  go_ret
  exact ⟨rfl, HO.out _ hb⟩

theorem renter_any (u v : Int) (w : World) :
    Calls Try.prog 40 #[pv u v] w fun e w' => e = .returned (tv u 1 v) ∧ Old w w' := by
  have HZ := lain2 w (pc u v) (tc 0 0 0) 58 62
  have HL : Hid (Old w ((w.alloc (.cells (pc u v) 58)).alloc (.cells (tc 0 0 0) 62))) := HZ.old
  have HR : Hid (((w.alloc (.cells (pc u v) 58)).alloc (.cells (tc 0 0 0) 62)).heap[w.heap.size + 1]? = some (.cells #[.int .u64 0, .int .u64 0, .int .u64 0] 62 (0, 0))) := HZ.row 1 (by simp)
  have d0 : ((w.alloc (.cells (pc u v) 58)).alloc (.cells (tc 0 0 0) 62)).cell? ⟨w.heap.size, 0, none⟩ = some (.int .u64 u) := HZ.cell 0 0 (by simp) rfl
  have d1 : ((w.alloc (.cells (pc u v) 58)).alloc (.cells (tc 0 0 0) 62)).cell? ⟨w.heap.size, 1, none⟩ = some (.int .u64 v) := HZ.cell 0 1 (by simp) rfl
  have q0 : ((w.alloc (.cells (pc u v) 58)).alloc (.cells (tc 0 0 0) 62)).cell? ⟨w.heap.size + 1, 0, none⟩ = some (.int .u64 0) := HZ.cell 1 0 (by simp) rfl
  have q1 : ((w.alloc (.cells (pc u v) 58)).alloc (.cells (tc 0 0 0) 62)).cell? ⟨w.heap.size + 1, 1, none⟩ = some (.int .u64 0) := HZ.cell 1 1 (by simp) rfl
  have q2 : ((w.alloc (.cells (pc u v) 58)).alloc (.cells (tc 0 0 0) 62)).cell? ⟨w.heap.size + 1, 2, none⟩ = some (.int .u64 0) := HZ.cell 1 2 (by simp) rfl
  have f0 := row_frozen HR.out 0
  have f1 := row_frozen HR.out 1
  have f2 := row_frozen HR.out 2
  clear HZ
  go_enter Try.func40, Try.ntmps40
  go_upto_region 1 with fail
  generalize hW : (w.alloc (.cells (pc u v) 58)).alloc (.cells (tc 0 0 0) 62) = W at *
  clear hW
  go_wp2_with fail
  exact bodyPost_ret (result5 (b := w.heap.size + 1) rfl rfl (load_three HR.out Try.underlying62 info_three)) rfl ⟨rfl, ((HL.out.setCell (by simp) _).setCell (by simp) _).setCell (by simp) _⟩

set_option maxHeartbeats 4000000 in
theorem rseal_any (P Q G H : Int) (a : Option Addr) (n cap : Nat) (y m r : Int) (w : World) (h4 : Four P Q G H) (hr : Righ P Q G) (hy : U64 y) (hm : U64 m) (hrr : U64 r) :
    Calls Try.prog 39 #[gv P Q G H a n cap, .int .u64 y, .int .u64 m, .int .u64 r] w fun e w' => e = .returned (pv (mulI 1 (expI P Q G r) P) (mulI m (expI P Q y r) P)) ∧ Old w w' := by
  have HC : Hid (∀ wx, Calls Try.prog 65 #[gv P Q G H a n cap, .int .u64 y, pv 1 m, .int .u64 r] wx fun e w' => e = .returned (pv (mulI 1 (expI P Q G r) P) (mulI m (expI P Q y r) P)) ∧ Old wx w') := fun wx => ragain_any P Q G H a n cap y 1 m r wx h4 hr hy ⟨by omega, by omega⟩ hm hrr
  have HZ := lain2 w (gc P Q G H a n cap) (pc 0 0) 25 58
  have d0_0 : ((w.alloc (.cells (gc P Q G H a n cap) 25)).alloc (.cells (pc 0 0) 58)).cell? ⟨w.heap.size, 0, none⟩ = some (.int .u64 P) := HZ.cell 0 0 (by simp) rfl
  have d0_1 : ((w.alloc (.cells (gc P Q G H a n cap) 25)).alloc (.cells (pc 0 0) 58)).cell? ⟨w.heap.size, 1, none⟩ = some (.int .u64 Q) := HZ.cell 0 1 (by simp) rfl
  have d0_2 : ((w.alloc (.cells (gc P Q G H a n cap) 25)).alloc (.cells (pc 0 0) 58)).cell? ⟨w.heap.size, 2, none⟩ = some (.int .u64 G) := HZ.cell 0 2 (by simp) rfl
  have d0_3 : ((w.alloc (.cells (gc P Q G H a n cap) 25)).alloc (.cells (pc 0 0) 58)).cell? ⟨w.heap.size, 3, none⟩ = some (.int .u64 H) := HZ.cell 0 3 (by simp) rfl
  have d0_4 : ((w.alloc (.cells (gc P Q G H a n cap) 25)).alloc (.cells (pc 0 0) 58)).cell? ⟨w.heap.size, 4, none⟩ = some (.slice a n cap) := HZ.cell 0 4 (by simp) rfl
  clear h4 hr
  generalize mulI 1 (expI P Q G r) P = X at *
  generalize mulI m (expI P Q y r) P = Y at *
  go_enter Try.func39, Try.ntmps39
  go_upto_region 1 with fail
  generalize hW : (w.alloc (.cells (gc P Q G H a n cap) 25)).alloc (.cells (pc 0 0) 58) = W at *
  clear hW
  go_wp2_with (go_at_call 65; refine (HC.out _).mono ?_; rintro e w1 ⟨rfl, ho⟩; have hb := HZ.then ho; have hrow := hb.row 1 (by simp); have q0 := cell_of_row _ _ 0 _ _ (0, 0) hrow; have q1 := cell_of_row _ _ 1 _ _ (0, 0) hrow; have f0 := row_frozen hrow 0; have f1 := row_frozen hrow 1; simp at q0 q1; have HL : Hid (Old w w1) := hb.old; have HR : Hid (w1.heap[w.heap.size + 1]? = some (.cells #[.int .u64 0, .int .u64 0] 58 (0, 0))) := hrow; clear hrow hb)
  exact bodyPost_ret (result5 (b := w.heap.size + 1) rfl rfl (load_two HR.out Try.underlying58 info_pair)) rfl ⟨rfl, (HL.out.setCell (by simp) _).setCell (by simp) _⟩

end Go.Proofs.Ytokhpppealdfmaf

namespace Go.Proofs.Ytokhpppealdfmaf
open Go.RowKit

set_option maxHeartbeats 8000000 in
theorem rcross_any (P Q G H : Int) (a : Option Addr) (n cap : Nat) (x y u m v r : Int) (w : World) (h4 : Four P Q G H) (hr : Righ P Q G) (hx : U64 x) (hy : U64 y) (hui : inI P Q u = true) (hm : U64 m) (hv : U64 v) (hrr : U64 r) :
    Calls Try.prog 41 #[gv P Q G H a n cap, .int .u64 x, .int .u64 y, tv u m v, .int .u64 r] w fun e w' => e = .returned (tv u (mulI m (expI P Q G r) P) (mulI (overI P v (expI P Q u x)) (expI P Q y r) P)) ∧ Old w w' := by
  have HE : Hid (∀ x e wx, U64 x → U64 e → Lain w [(gc P Q G H a n cap, 25), (tc u m v, 62), (tc 0 0 0, 62)] wx → Calls Try.prog 64 #[gv P Q G H a n cap, .int .u64 x, .int .u64 e] wx fun r w' => r = .returned (.int .u64 (expI P Q x e)) ∧ Lain w [(gc P Q G H a n cap, 25), (tc u m v, 62), (tc 0 0 0, 62)] w') :=
    fun x e wx hx he hb => (rexp_any P Q G H x e a n cap wx h4.q1 hx.1 hx.2 he.1 he.2).mono fun r w' ⟨h, k⟩ => ⟨h, hb.then k⟩
  have HP : Hid (∀ x y t wx, U64 x → U64 y → Lain w [(gc P Q G H a n cap, 25), (tc u m v, 62), (tc 0 0 0, 62)] wx → Calls Try.prog 66 #[gv P Q G H a n cap, .slice (some ⟨wx.heap.size, 0, none⟩) 2 2] (wx.alloc (.cells #[.int .u64 x, .int .u64 y] t)) fun r w' => r = .returned (.int .u64 (mulI x y P)) ∧ Lain w [(gc P Q G H a n cap, 25), (tc u m v, 62), (tc 0 0 0, 62)] w') :=
    fun x y t wx hx hy hb => (rprod_any P Q G H a n cap _ 2 2 _ _ (by decide) (facs_two wx x y t hx hy)).mono fun r w' ⟨h, k⟩ => ⟨by rw [h, prod5 hr], hb.then (((Old.refl _).alloc _).trans k)⟩
  have HV : Hid (∀ x y wx, U64 x → inI P Q y = true → Lain w [(gc P Q G H a n cap, 25), (tc u m v, 62), (tc 0 0 0, 62)] wx → Calls Try.prog 63 #[gv P Q G H a n cap, .int .u64 x, .int .u64 y] wx fun r w' => r = .returned (.int .u64 (overI P x y)) ∧ Lain w [(gc P Q G H a n cap, 25), (tc u m v, 62), (tc 0 0 0, 62)] w') :=
    fun x y wx hx hy hb => (rover_any P Q G H a n cap x y wx hx ⟨by have := (inI_bd5 hr hy); omega, by have := (inI_bd5 hr hy); omega⟩).mono fun r w' ⟨h, k⟩ => ⟨h, hb.then k⟩
  have HD : Hid (∀ wx, Lain w [(gc P Q G H a n cap, 25), (tc u m v, 62), (tc 0 0 0, 62)] wx → Lain w [(gc P Q G H a n cap, 25), (tc u m v, 62), (tc 0 0 0, 62)] wx.drew) := fun _ h => h.then (Old.refl _).drew
  have HO : Hid (∀ wx, Lain w [(gc P Q G H a n cap, 25), (tc u m v, 62), (tc 0 0 0, 62)] wx → Old w wx) := fun _ h => h.old
  have hG : U64 G := ⟨h4.g0, h4.g1⟩
  have hu : U64 u := inI_bd5 hr hui
  have HX : Hid (inI P Q (expI P Q u x) = true) := hr.exp_in hui
  have HF : Hid (∀ w', Lain w [(gc P Q G H a n cap, 25), (tc u m v, 62), (tc 0 0 0, 62)] w' → w'.cell? ⟨w.heap.size, 0, none⟩ = some (.int .u64 P) ∧ w'.cell? ⟨w.heap.size, 1, none⟩ = some (.int .u64 Q) ∧ w'.cell? ⟨w.heap.size, 2, none⟩ = some (.int .u64 G) ∧ w'.cell? ⟨w.heap.size, 3, none⟩ = some (.int .u64 H) ∧ w'.cell? ⟨w.heap.size, 4, none⟩ = some (.slice a n cap) ∧ w'.cell? ⟨w.heap.size + 1, 0, none⟩ = some (.int .u64 u) ∧ w'.cell? ⟨w.heap.size + 1, 1, none⟩ = some (.int .u64 m) ∧ w'.cell? ⟨w.heap.size + 1, 2, none⟩ = some (.int .u64 v)) := fun _ h => ⟨h.cell 0 0 (by simp) rfl, h.cell 0 1 (by simp) rfl, h.cell 0 2 (by simp) rfl, h.cell 0 3 (by simp) rfl, h.cell 0 4 (by simp) rfl, h.cell 1 0 (by simp) rfl, h.cell 1 1 (by simp) rfl, h.cell 1 2 (by simp) rfl⟩
  have HZ := lain3 w (gc P Q G H a n cap) (tc u m v) (tc 0 0 0) 25 62 62
  clear h4 hr hui
  go_enter Try.func41, Try.ntmps41
  go_upto_region 1 with fail
  generalize hW : ((w.alloc (.cells (gc P Q G H a n cap) 25)).alloc (.cells (tc u m v) 62)).alloc (.cells (tc 0 0 0) 62) = W at *
  clear hW
  have hb := HZ
  obtain ⟨d0_0, d0_1, d0_2, d0_3, d0_4, d1_0, d1_1, d1_2⟩ := HF.out _ hb
  go_region_held3 (fun w' => w'.cell? ⟨w.heap.size, 0, none⟩ = some (.int .u64 P) ∧ w'.cell? ⟨w.heap.size, 1, none⟩ = some (.int .u64 Q) ∧ w'.cell? ⟨w.heap.size, 2, none⟩ = some (.int .u64 G) ∧ w'.cell? ⟨w.heap.size, 3, none⟩ = some (.int .u64 H) ∧ w'.cell? ⟨w.heap.size, 4, none⟩ = some (.slice a n cap) ∧ w'.cell? ⟨w.heap.size + 1, 0, none⟩ = some (.int .u64 u) ∧ w'.cell? ⟨w.heap.size + 1, 1, none⟩ = some (.int .u64 m) ∧ w'.cell? ⟨w.heap.size + 1, 2, none⟩ = some (.int .u64 v)) (first | go_keep | exact HF.out _ (by assumption)) (first
    | (go_at_call 64; refine (HE.out _ _ _ (by assumption) (by assumption) (by first | assumption | exact HD.out _ (by assumption))).mono ?_; rintro e w1 ⟨rfl, hb⟩)
    | (go_at_call 66; refine (HP.out _ _ _ _ (by first | assumption | exact u64_over _ _ _) (by first | assumption | exact u64_exp _ _ _ _) (by first | assumption | exact HD.out _ (by assumption))).mono ?_; rintro e w2 ⟨rfl, hb⟩)
    | (go_at_call 63; refine (HV.out _ _ _ hv HX.out (by first | assumption | exact HD.out _ (by assumption))).mono ?_; rintro e w2 ⟨rfl, hb⟩))
  clear d0_0 d0_1 d0_2 d0_3 d0_4 d1_0 d1_1 d1_2
  obtain ⟨d0_0, d0_1, d0_2, d0_3, d0_4, d1_0, d1_1, d1_2⟩ := HF.out _ hb
  go_upto_region 2 with fail
  go_region_held3 (fun w' => w'.cell? ⟨w.heap.size, 0, none⟩ = some (.int .u64 P) ∧ w'.cell? ⟨w.heap.size, 1, none⟩ = some (.int .u64 Q) ∧ w'.cell? ⟨w.heap.size, 2, none⟩ = some (.int .u64 G) ∧ w'.cell? ⟨w.heap.size, 3, none⟩ = some (.int .u64 H) ∧ w'.cell? ⟨w.heap.size, 4, none⟩ = some (.slice a n cap) ∧ w'.cell? ⟨w.heap.size + 1, 0, none⟩ = some (.int .u64 u) ∧ w'.cell? ⟨w.heap.size + 1, 1, none⟩ = some (.int .u64 m) ∧ w'.cell? ⟨w.heap.size + 1, 2, none⟩ = some (.int .u64 v)) (first | go_keep | exact HF.out _ (by assumption)) (first
    | (go_at_call 64; refine (HE.out _ _ _ (by assumption) (by assumption) (by first | assumption | exact HD.out _ (by assumption))).mono ?_; rintro e w3 ⟨rfl, hb⟩)
    | (go_at_call 66; refine (HP.out _ _ _ _ (by first | assumption | exact u64_over _ _ _) (by first | assumption | exact u64_exp _ _ _ _) (by first | assumption | exact HD.out _ (by assumption))).mono ?_; rintro e w4 ⟨rfl, hb⟩)
    | (go_at_call 63; refine (HV.out _ _ _ hv HX.out (by first | assumption | exact HD.out _ (by assumption))).mono ?_; rintro e w4 ⟨rfl, hb⟩))
  clear d0_0 d0_1 d0_2 d0_3 d0_4 d1_0 d1_1 d1_2
  obtain ⟨d0_0, d0_1, d0_2, d0_3, d0_4, d1_0, d1_1, d1_2⟩ := HF.out _ hb
  go_upto_region 3 with fail
  go_region_held3 (fun w' => w'.cell? ⟨w.heap.size, 0, none⟩ = some (.int .u64 P) ∧ w'.cell? ⟨w.heap.size, 1, none⟩ = some (.int .u64 Q) ∧ w'.cell? ⟨w.heap.size, 2, none⟩ = some (.int .u64 G) ∧ w'.cell? ⟨w.heap.size, 3, none⟩ = some (.int .u64 H) ∧ w'.cell? ⟨w.heap.size, 4, none⟩ = some (.slice a n cap) ∧ w'.cell? ⟨w.heap.size + 1, 0, none⟩ = some (.int .u64 u) ∧ w'.cell? ⟨w.heap.size + 1, 1, none⟩ = some (.int .u64 m) ∧ w'.cell? ⟨w.heap.size + 1, 2, none⟩ = some (.int .u64 v)) (first | go_keep | exact HF.out _ (by assumption)) (first
    | (go_at_call 64; refine (HE.out _ _ _ (by assumption) (by assumption) (by first | assumption | exact HD.out _ (by assumption))).mono ?_; rintro e w5 ⟨rfl, hb⟩)
    | (go_at_call 66; refine (HP.out _ _ _ _ (by first | assumption | exact u64_over _ _ _) (by first | assumption | exact u64_exp _ _ _ _) (by first | assumption | exact HD.out _ (by assumption))).mono ?_; rintro e w6 ⟨rfl, hb⟩)
    | (go_at_call 63; refine (HV.out _ _ _ hv HX.out (by first | assumption | exact HD.out _ (by assumption))).mono ?_; rintro e w6 ⟨rfl, hb⟩))
  clear d0_0 d0_1 d0_2 d0_3 d0_4 d1_0 d1_1 d1_2
  obtain ⟨d0_0, d0_1, d0_2, d0_3, d0_4, d1_0, d1_1, d1_2⟩ := HF.out _ hb
  have hrow := hb.row 2 (by simp)
  have q0 := cell_of_row _ _ 0 _ _ (0, 0) hrow
  have q1 := cell_of_row _ _ 1 _ _ (0, 0) hrow
  have q2 := cell_of_row _ _ 2 _ _ (0, 0) hrow
  have f0 := row_frozen hrow 0
  have f1 := row_frozen hrow 1
  have f2 := row_frozen hrow 2
  have HL : Hid (Old w w6) := hb.old
  have HR : Hid (w6.heap[w.heap.size + 2]? = some (.cells #[.int .u64 0, .int .u64 0, .int .u64 0] 62 (0, 0))) := hrow
  simp at q0 q1 q2
  clear hrow
  go_wp2_with fail
  exact bodyPost_ret (result5 (b := w.heap.size + 2) rfl rfl (load_three HR.out Try.underlying62 info_three)) rfl ⟨rfl, ((HL.out.setCell (by simp; omega) _).setCell (by simp; omega) _).setCell (by simp; omega) _⟩

end Go.Proofs.Ytokhpppealdfmaf
