/-
  The contracts of group's functions.
-/
import Derived.Test.YthheogiiggiciadGprod
import Derived.Test.YthheogiiggiciadHolds
namespace Go.Proofs.Ythheogiiggiciad
open Go.RowKit

/-- A group's four numbers lie in their kind. -/
structure Four (P Q G H : Int) : Prop where
  p0 : 0 ≤ P
  p1 : P ≤ 18446744073709551615
  q0 : 0 ≤ Q
  q1 : Q ≤ 18446744073709551615
  g0 : 0 ≤ G
  g1 : G ≤ 18446744073709551615
  h0 : 0 ≤ H
  h1 : H ≤ 18446744073709551615

theorem gin0 (P Q G H x : Int) (a : Option Addr) (n cap : Nat) (w : World) (q0 : 0 ≤ Q) (q1 : Q ≤ 18446744073709551615) (x1 : x ≤ 18446744073709551615) :
    Calls Try.prog 12 #[gv P Q G H a n cap, .int .u64 x] w fun e w' => e = .returned (.bool (inI P Q x)) ∧ Old w w' := by
  have HW : Hid (∀ o, Old w (w.alloc o)) := fun o => (Old.refl w).alloc o
  by_cases h1 : 1 ≤ x
  · by_cases h2 : x < P
    · have HC : Hid (∀ wx, Calls Try.prog 42 #[.int .u64 x, .int .u64 Q, .int .u64 P] wx fun e w' => e = .returned (.int .u64 (powI x Q P)) ∧ ∃ n, w' = wx.drewN n) := fun wx => pow_any x Q P wx (by omega) x1 q0 q1
      have HE : Hid (inI P Q x = (powI x Q P == 1)) := by unfold Hid inI; simp [h1, h2]
      generalize powI x Q P = y at *
      go_enter Try.func12, Try.ntmps12
      go_wp2_with (go_at_call 42; refine (HC.out _).mono ?_; rintro e w1 ⟨rfl, k1, hw1⟩)
      go_ret
      refine ⟨by rw [HE.out]; rfl, ?_⟩
      first
        | exact (HW.out _).drewN _
        | (rw [hw1]; exact (HW.out _).drewN _)
    · have HE : Hid (inI P Q x = false) := by unfold Hid inI; simp [h2]
      go_enter Try.func12, Try.ntmps12
      go_wp2_with fail
      go_ret
      exact ⟨by rw [HE.out]; rfl, HW.out _⟩
  · have HE : Hid (inI P Q x = false) := by unfold Hid inI; simp [h1]
    go_enter Try.func12, Try.ntmps12
    go_wp2_with fail
    go_ret
    exact ⟨by rw [HE.out]; rfl, HW.out _⟩

theorem glay0 (P Q G H k : Int) (a : Option Addr) (n cap : Nat) (w : World) (q0 : 0 ≤ Q) (q1 : Q ≤ 18446744073709551615) (k0 : 0 ≤ k) (k1 : k ≤ 18446744073709551615) :
    Calls Try.prog 36 #[gv P Q G H a n cap, .int .u64 k] w fun e w' => e = .returned (.tuple #[.int .u64 (layI P Q k), .bool (layB Q k)]) ∧ Old w w' := by
  have HW : Hid (∀ o, Old w (w.alloc o)) := fun o => (Old.refl w).alloc o
  by_cases h1 : Q ≤ k
  · have HE : Hid (layI P Q k = 0 ∧ layB Q k = false) := by unfold Hid layI layB; simp [h1]
    go_enter Try.func36, Try.ntmps36
    go_wp2_with fail
    go_ret2
    exact ⟨by rw [HE.out.1, HE.out.2]; rfl, HW.out _⟩
  · have HC : Hid (∀ wx, Calls Try.prog 12 #[gv P Q G H a n cap, .int .u64 (k + 1)] wx fun e w' => e = .returned (.bool (inI P Q (k + 1))) ∧ Old wx w') := fun wx => gin0 P Q G H (k + 1) a n cap wx q0 q1 (by omega)
    have HB : Hid (layB Q k = true) := by unfold Hid layB; simp [h1]
    cases hi : inI P Q (k + 1) with
    | true =>
      have HE : Hid (layI P Q k = k + 1) := by unfold Hid layI; simp [h1, hi]
      rw [hi] at HC
      clear hi
      go_enter Try.func36, Try.ntmps36
      go_wp2_with (go_at_call 12; refine (HC.out _).mono ?_; rintro e w1 ⟨rfl, ho1⟩)
      go_ret2
      exact ⟨by rw [HE.out, HB.out]; rfl, (HW.out _).trans ho1⟩
    | false =>
      have HE : Hid (layI P Q k = (P - k - 1) % 18446744073709551616) := by unfold Hid layI; simp [h1, hi]
      rw [hi] at HC
      clear hi
      have HF : Hid (∀ t w', Old (w.alloc (.cells #[.int .u64 P, .int .u64 Q, .int .u64 G, .int .u64 H, .slice a n cap] t)) w' → w'.cell? ⟨w.heap.size, 0, none⟩ = some (.int .u64 P)) := fun t w' ho => ho.cellOf (gcell w t 0)
      go_enter Try.func36, Try.ntmps36
      go_wp2_with (go_at_call 12; refine (HC.out _).mono ?_; rintro e w1 ⟨rfl, ho1⟩; have cf := HF.out _ _ ho1)
      go_ret2
      exact ⟨by rw [HE.out, HB.out]; simp [IntKind.wrap_u64] <;> omega, (HW.out _).trans ho1⟩

theorem gback0 (P Q G H x : Int) (a : Option Addr) (n cap : Nat) (w : World) (q0 : 0 ≤ Q) (q1 : Q ≤ 18446744073709551615) (x0 : 0 ≤ x) (x1 : x ≤ 18446744073709551615) :
    Calls Try.prog 37 #[gv P Q G H a n cap, .int .u64 x] w fun e w' => e = .returned (.tuple #[.int .u64 (backI P Q x), .bool (inI P Q x)]) ∧ Old w w' := by
  have HW : Hid (∀ o, Old w (w.alloc o)) := fun o => (Old.refl w).alloc o
  have HC : Hid (∀ wx, Calls Try.prog 12 #[gv P Q G H a n cap, .int .u64 x] wx fun e w' => e = .returned (.bool (inI P Q x)) ∧ Old wx w') := fun wx => gin0 P Q G H x a n cap wx q0 q1 x1
  have HF : Hid (∀ t w', Old (w.alloc (.cells #[.int .u64 P, .int .u64 Q, .int .u64 G, .int .u64 H, .slice a n cap] t)) w' → w'.cell? ⟨w.heap.size, 0, none⟩ = some (.int .u64 P) ∧ w'.cell? ⟨w.heap.size, 1, none⟩ = some (.int .u64 Q)) := fun t w' ho => ⟨ho.cellOf (gcell w t 0), ho.cellOf (gcell w t 1)⟩
  cases hi : inI P Q x with
  | false =>
    have HE : Hid (backI P Q x = 0) := by unfold Hid backI; simp [hi]
    rw [hi] at HC
    clear hi
    go_enter Try.func37, Try.ntmps37
    go_wp2_with (go_at_call 12; refine (HC.out _).mono ?_; rintro e w1 ⟨rfl, ho1⟩)
    go_ret2
    exact ⟨by rw [HE.out]; rfl, (HW.out _).trans ho1⟩
  | true =>
    have hx1 := (inI_iff.1 hi).1
    rw [hi] at HC
    by_cases hx : x ≤ Q
    · have HE : Hid (backI P Q x = x - 1) := by unfold Hid backI; simp [hi, hx]
      clear hi
      go_enter Try.func37, Try.ntmps37
      go_wp2_with (go_at_call 12; refine (HC.out _).mono ?_; rintro e w1 ⟨rfl, ho1⟩; obtain ⟨cf, cg⟩ := HF.out _ _ ho1)
      go_ret2
      exact ⟨by rw [HE.out]; rfl, (HW.out _).trans ho1⟩
    · have HE : Hid (backI P Q x = (P - x - 1) % 18446744073709551616) := by unfold Hid backI; simp [hi, hx]
      clear hi
      go_enter Try.func37, Try.ntmps37
      go_wp2_with (go_at_call 12; refine (HC.out _).mono ?_; rintro e w1 ⟨rfl, ho1⟩; obtain ⟨cf, cg⟩ := HF.out _ _ ho1)
      go_ret2
      exact ⟨by rw [HE.out]; simp [IntKind.wrap_u64] <;> omega, (HW.out _).trans ho1⟩

theorem gin_any (P Q G H x : Int) (a : Option Addr) (n cap : Nat) (w : World) (h4 : Four P Q G H) (_hr : Righ P Q G) (_x0 : 0 ≤ x) (x1 : x ≤ 18446744073709551615) :
    Calls Try.prog 12 #[gv P Q G H a n cap, .int .u64 x] w fun e w' => e = .returned (.bool (inI P Q x)) ∧ Old w w' := gin0 P Q G H x a n cap w h4.q0 h4.q1 x1

theorem glay_any (P Q G H k : Int) (a : Option Addr) (n cap : Nat) (w : World) (h4 : Four P Q G H) (_hr : Righ P Q G) (x0 : 0 ≤ k) (x1 : k ≤ 18446744073709551615) :
    Calls Try.prog 36 #[gv P Q G H a n cap, .int .u64 k] w fun e w' => e = .returned (.tuple #[.int .u64 (layI P Q k), .bool (layB Q k)]) ∧ Old w w' := glay0 P Q G H k a n cap w h4.q0 h4.q1 x0 x1

theorem gback_any (P Q G H x : Int) (a : Option Addr) (n cap : Nat) (w : World) (h4 : Four P Q G H) (_hr : Righ P Q G) (x0 : 0 ≤ x) (x1 : x ≤ 18446744073709551615) :
    Calls Try.prog 37 #[gv P Q G H a n cap, .int .u64 x] w fun e w' => e = .returned (.tuple #[.int .u64 (backI P Q x), .bool (inI P Q x)]) ∧ Old w w' := gback0 P Q G H x a n cap w h4.q0 h4.q1 x0 x1

theorem gexp_any (P Q G H x y : Int) (a : Option Addr) (n cap : Nat) (w : World) (_h4 : Four P Q G H) (hr : Righ P Q G) (x0 : 0 ≤ x) (x1 : x ≤ 18446744073709551615) (y0 : 0 ≤ y) (y1 : y ≤ 18446744073709551615) :
    Calls Try.prog 13 #[gv P Q G H a n cap, .int .u64 x, .int .u64 y] w fun e w' => e = .returned (.int .u64 (expI P Q x y)) ∧ Old w w' := by
  have q5 := hr.q0
  have q6 := hr.q1
  have m0 : 0 ≤ y % Q := Int.emod_nonneg _ (by omega)
  have m1 : y % Q < Q := Int.emod_lt_of_pos _ (by omega)
  have HW : Hid (∀ o, Old w (w.alloc o)) := fun o => (Old.refl w).alloc o
  have HE : Hid (expI P Q x y = powI x (y % Q) P) := by unfold Hid expI; rw [if_neg (by omega)]
  have HA : Hid (∀ wx, Calls Try.prog 43 #[.int .u64 y, .int .u64 0, .int .u64 Q] wx fun e w' => e = .returned (.int .u64 (y % Q)) ∧ ∃ n, w' = wx.drewN n) := fun wx => by
    have h := add_any y 0 Q wx y0 y1 (by omega) (by omega)
    rw [addI_yes (okM_of (by omega) (by omega)), Int.add_zero] at h
    exact h
  have HP : Hid (∀ wx, Calls Try.prog 42 #[.int .u64 x, .int .u64 (y % Q), .int .u64 P] wx fun e w' => e = .returned (.int .u64 (expI P Q x y)) ∧ ∃ n, w' = wx.drewN n) := fun wx => by
    rw [HE.out]
    exact pow_any x (y % Q) P wx x0 x1 m0 (by omega)
  generalize expI P Q x y = R at *
  generalize y % Q = z at *
  clear hr q5 q6 m0 m1 HE
  go_enter Try.func13, Try.ntmps13
  go_wp2_with fail
  go_quiet (first
    | (go_at_call 43; exact Calls.quiet_of (HA.out _))
    | (go_at_call 42; exact Calls.quiet_of (HP.out _)))
  go_wp2_with fail
  go_ret
  exact ⟨rfl, (HW.out _).drewN _⟩

def sizesI (P Q : Int) : Bool := decide (5 ≤ Q) && decide (Q < 2305843009213693952) && (P == 2 * Q + 1)
def basesI (P Q G H : Int) : Bool := inI P Q G && inI P Q H && !(G == 1) && !(H == 1) && !(G == H)
theorem right_eq (P Q G H : Int) (N A : Nat → Int) (F : Nat → Nat → Int) (L : Nat → Nat) (n : Nat) : rightI P Q G H N A F L n = (sizesI P Q && basesI P Q G H && provedB N A F L n P && provedB N A F L n Q) := by
  unfold rightI sizesI basesI
  rw [Bool.eq_iff_iff]
  simp only [Bool.and_eq_true]
  constructor
  · rintro ⟨⟨⟨⟨⟨⟨⟨⟨⟨h1, h2⟩, h3⟩, h4⟩, h5⟩, h6⟩, h7⟩, h8⟩, h9⟩, h10⟩
    exact ⟨⟨⟨⟨⟨h1, h2⟩, h3⟩, ⟨⟨⟨h6, h7⟩, h8⟩, h9⟩, h10⟩, h4⟩, h5⟩
  · rintro ⟨⟨⟨⟨⟨h1, h2⟩, h3⟩, ⟨⟨⟨h6, h7⟩, h8⟩, h9⟩, h10⟩, h4⟩, h5⟩
    exact ⟨⟨⟨⟨⟨⟨⟨⟨⟨h1, h2⟩, h3⟩, h4⟩, h5⟩, h6⟩, h7⟩, h8⟩, h9⟩, h10⟩

theorem gsizes_any (P Q G H : Int) (a : Option Addr) (n cap : Nat) (w : World) (h4 : Four P Q G H) :
    Calls Try.prog 39 #[gv P Q G H a n cap] w fun e w' => e = .returned (.bool (sizesI P Q)) ∧ Old w w' := by
  have HW : Hid (∀ o, Old w (w.alloc o)) := fun o => (Old.refl w).alloc o
  have hE : sizesI P Q = (decide (P % 2 = 1) && decide (P / 2 = Q) && decide (5 ≤ Q) && decide (P ≤ 4611686018427387904)) := by
    unfold sizesI
    rw [Bool.eq_iff_iff]
    simp only [Bool.and_eq_true, decide_eq_true_eq, beq_iff_eq]
    omega
  have p0 := h4.p0
  have p1 := h4.p1
  have q0 := h4.q0
  have q1 := h4.q1
  clear h4
  generalize sizesI P Q = R at *
  have t0 : 0 ≤ P % 2 := by omega
  have t1 : P % 2 < 2 := by omega
  by_cases c1 : P % 2 = 1
  case neg =>
    obtain rfl : R = false := by rw [hE]; simp [c1]
    clear hE
    have c2 : P % 2 = 0 := by omega
    go_enter Try.func39, Try.ntmps39
    go_wp2_with fail
    go_ret
    exact ⟨rfl, HW.out _⟩
  by_cases c2 : P / 2 = Q
  case neg =>
    obtain rfl : R = false := by rw [hE]; simp [c2]
    clear hE
    go_enter Try.func39, Try.ntmps39
    go_wp2_with fail
    go_ret
    exact ⟨rfl, HW.out _⟩
  by_cases c3 : 5 ≤ Q
  case neg =>
    obtain rfl : R = false := by rw [hE]; simp [c3]
    clear hE
    go_enter Try.func39, Try.ntmps39
    go_wp2_with fail
    go_ret
    exact ⟨rfl, HW.out _⟩
  obtain rfl : R = decide (P ≤ 4611686018427387904) := by rw [hE]; simp [c1, c2, c3]
  clear hE
  go_enter Try.func39, Try.ntmps39
  go_wp2_with fail
  go_ret
  exact ⟨rfl, HW.out _⟩

set_option maxHeartbeats 1000000 in
theorem gbases_any (P Q G H : Int) (a : Option Addr) (n cap : Nat) (w : World) (h4 : Four P Q G H) :
    Calls Try.prog 40 #[gv P Q G H a n cap] w fun e w' => e = .returned (.bool (basesI P Q G H)) ∧ Old w w' := by
  have HW : Hid (∀ t, Beh w P Q G H a n cap (w.alloc (go P Q G H a n cap t))) := fun t => Beh.new w P Q G H a n cap t
  have HI : Hid (∀ x wx, x ≤ 18446744073709551615 → Beh w P Q G H a n cap wx → Calls Try.prog 12 #[gv P Q G H a n cap, .int .u64 x] wx fun e w' => e = .returned (.bool (inI P Q x)) ∧ Beh w P Q G H a n cap w') :=
    fun x wx hx hb => (gin0 P Q G H x a n cap wx h4.q0 h4.q1 hx).mono fun e w' ⟨h, k⟩ => ⟨h, hb.then k⟩
  have HO : Hid (∀ w', Beh w P Q G H a n cap w' → Old w w') := fun _ h => h.old
  have HF : Hid (∀ w', Beh w P Q G H a n cap w' → w'.cell? ⟨w.heap.size, 0, none⟩ = some (.int .u64 P) ∧ w'.cell? ⟨w.heap.size, 1, none⟩ = some (.int .u64 Q) ∧ w'.cell? ⟨w.heap.size, 2, none⟩ = some (.int .u64 G) ∧ w'.cell? ⟨w.heap.size, 3, none⟩ = some (.int .u64 H) ∧ w'.cell? ⟨w.heap.size, 4, none⟩ = some (.slice a n cap)) :=
    fun _ h => ⟨h.cell rfl, h.cell rfl, h.cell rfl, h.cell rfl, h.cell rfl⟩
  have g1 := h4.g1
  have h1 := h4.h1
  clear h4
  have HE : Hid (basesI P Q G H = (inI P Q G && inI P Q H && !(G == 1) && !(H == 1) && !(G == H))) := rfl
  generalize basesI P Q G H = R at *
  cases c1 : (G != H)
  · obtain rfl : R = false := by rw [HE.out]; simp at c1; simp [c1]
    clear HE
    go_enter Try.func40, Try.ntmps40
    go_wp2_with (go_at_call 12; refine (HI.out _ _ (by assumption) (by first | exact HW.out _ | assumption)).mono ?_; rintro e w1 ⟨rfl, hb⟩; obtain ⟨d0, d1, d2, d3, d4⟩ := HF.out _ hb; fail)
    go_ret
    exact ⟨rfl, HO.out _ (by first | assumption | exact HW.out _)⟩
  cases c2 : (G != 1)
  · obtain rfl : R = false := by rw [HE.out]; simp at c2; simp [c2]
    clear HE
    go_enter Try.func40, Try.ntmps40
    go_wp2_with (go_at_call 12; refine (HI.out _ _ (by assumption) (by first | exact HW.out _ | assumption)).mono ?_; rintro e w1 ⟨rfl, hb⟩; obtain ⟨d0, d1, d2, d3, d4⟩ := HF.out _ hb; fail)
    go_ret
    exact ⟨rfl, HO.out _ (by first | assumption | exact HW.out _)⟩
  cases c3 : (H != 1)
  · obtain rfl : R = false := by rw [HE.out]; simp at c3; simp [c3]
    clear HE
    go_enter Try.func40, Try.ntmps40
    go_wp2_with (go_at_call 12; refine (HI.out _ _ (by assumption) (by first | exact HW.out _ | assumption)).mono ?_; rintro e w1 ⟨rfl, hb⟩; obtain ⟨d0, d1, d2, d3, d4⟩ := HF.out _ hb; fail)
    go_ret
    exact ⟨rfl, HO.out _ (by first | assumption | exact HW.out _)⟩
  have hE : R = (inI P Q G && inI P Q H) := by
    rw [HE.out]
    simp only [bne, Bool.not_eq_true'] at c1 c2 c3
    simp [c1, c2, c3]
  clear HE
  cases iG : inI P Q G
  · obtain rfl : R = false := by rw [hE]; simp [iG]
    clear hE
    go_enter Try.func40, Try.ntmps40
    go_wp2_with (go_at_call 12; refine (HI.out _ _ (by assumption) (by first | exact HW.out _ | assumption)).mono ?_; rintro e w1 ⟨rfl, hb⟩; obtain ⟨d0, d1, d2, d3, d4⟩ := HF.out _ hb; rw [iG])
    go_ret
    exact ⟨rfl, HO.out _ (by first | assumption | exact HW.out _)⟩
  · obtain rfl : R = inI P Q H := by rw [hE, iG]; simp
    clear hE
    go_enter Try.func40, Try.ntmps40
    go_wp2_with (first
      | (go_at_call_of 12 G; refine (HI.out _ _ (by assumption) (by first | exact HW.out _ | assumption)).mono ?_; rintro e w1 ⟨rfl, hb⟩; obtain ⟨d0, d1, d2, d3, d4⟩ := HF.out _ hb; rw [iG])
      | (go_at_call 12; refine (HI.out _ _ (by assumption) (by first | exact HW.out _ | assumption)).mono ?_; rintro e w1 ⟨rfl, hb2⟩))
    go_ret
    exact ⟨rfl, HO.out _ (by assumption)⟩

set_option maxHeartbeats 1000000 in
theorem gright_any (P Q G H : Int) (a : Option Addr) (n cap : Nat) (N A : Nat → Int) (FA : Nat → Option Addr) (L C : Nat → Nat) (F : Nat → Nat → Int) (w : World) (h4 : Four P Q G H) (hcap : n ≤ cap) (hn : n ≤ 80) (hin : RowsIn w a n N A FA L C F) :
    Calls Try.prog 11 #[gv P Q G H a n cap] w fun e w' => e = .returned (.bool (rightI P Q G H N A F L n)) ∧ Old w w' := by
  have HW : Hid (∀ t, Beh w P Q G H a n cap (w.alloc (go P Q G H a n cap t))) := fun t => Beh.new w P Q G H a n cap t
  have HR : Hid (∀ x wx, (0 ≤ x ∧ x ≤ 18446744073709551615) → Beh w P Q G H a n cap wx → Calls Try.prog 41 #[.int .u64 x, .slice a n cap] wx fun e w' => e = .returned (.bool (provedB N A F L n x)) ∧ Beh w P Q G H a n cap w') :=
    fun x wx hx hb => (proved_any x a n cap N A FA L C F wx hx.1 hx.2 hcap hn (hin.old hb.old)).mono fun e w' ⟨h, k⟩ => ⟨h, hb.then (Old.ofBelow k)⟩
  have HS : Hid (∀ wx, Beh w P Q G H a n cap wx → Calls Try.prog 39 #[gv P Q G H a n cap] wx fun e w' => e = .returned (.bool (sizesI P Q)) ∧ Beh w P Q G H a n cap w') :=
    fun wx hb => (gsizes_any P Q G H a n cap wx h4).mono fun e w' ⟨h, k⟩ => ⟨h, hb.then k⟩
  have HB : Hid (∀ wx, Beh w P Q G H a n cap wx → Calls Try.prog 40 #[gv P Q G H a n cap] wx fun e w' => e = .returned (.bool (basesI P Q G H)) ∧ Beh w P Q G H a n cap w') :=
    fun wx hb => (gbases_any P Q G H a n cap wx h4).mono fun e w' ⟨h, k⟩ => ⟨h, hb.then k⟩
  have HO : Hid (∀ w', Beh w P Q G H a n cap w' → Old w w') := fun _ h => h.old
  have HF : Hid (∀ w', Beh w P Q G H a n cap w' → w'.cell? ⟨w.heap.size, 0, none⟩ = some (.int .u64 P) ∧ w'.cell? ⟨w.heap.size, 1, none⟩ = some (.int .u64 Q) ∧ w'.cell? ⟨w.heap.size, 2, none⟩ = some (.int .u64 G) ∧ w'.cell? ⟨w.heap.size, 3, none⟩ = some (.int .u64 H) ∧ w'.cell? ⟨w.heap.size, 4, none⟩ = some (.slice a n cap)) :=
    fun _ h => ⟨h.cell rfl, h.cell rfl, h.cell rfl, h.cell rfl, h.cell rfl⟩
  have pb : 0 ≤ P ∧ P ≤ 18446744073709551615 := ⟨h4.p0, h4.p1⟩
  have qb : 0 ≤ Q ∧ Q ≤ 18446744073709551615 := ⟨h4.q0, h4.q1⟩
  clear hin hn hcap h4
  have hE := right_eq P Q G H N A F L n
  generalize rightI P Q G H N A F L n = R at *
  generalize sizesI P Q = s at *
  generalize basesI P Q G H = b at *
  generalize pP : provedB N A F L n P = rP at *
  generalize pQ : provedB N A F L n Q = rQ at *
  cases s
  · obtain rfl : R = false := by rw [hE]; simp
    clear hE
    go_enter Try.func11, Try.ntmps11
    go_wp2_with (first
      | (go_at_call 39; refine (HS.out _ (by first | exact HW.out _ | assumption)).mono ?_; rintro e w1 ⟨rfl, hb⟩; obtain ⟨d0, d1, d2, d3, d4⟩ := HF.out _ hb)
      | (go_at_call 40; refine (HB.out _ (by first | exact HW.out _ | assumption)).mono ?_; rintro e w1 ⟨rfl, hb⟩; obtain ⟨d0, d1, d2, d3, d4⟩ := HF.out _ hb; fail)
      | (go_at_call 41; refine (HR.out _ _ (by first | exact pb | exact qb) (by first | exact HW.out _ | assumption)).mono ?_; rintro e w1 ⟨rfl, hb⟩; obtain ⟨d0, d1, d2, d3, d4⟩ := HF.out _ hb; fail))
    go_ret
    exact ⟨rfl, HO.out _ (by first | assumption | exact HW.out _)⟩
  cases b
  · obtain rfl : R = false := by rw [hE]; simp
    clear hE
    go_enter Try.func11, Try.ntmps11
    go_wp2_with (first
      | (go_at_call 39; refine (HS.out _ (by first | exact HW.out _ | assumption)).mono ?_; rintro e w1 ⟨rfl, hb⟩; obtain ⟨d0, d1, d2, d3, d4⟩ := HF.out _ hb)
      | (go_at_call 40; refine (HB.out _ (by first | exact HW.out _ | assumption)).mono ?_; rintro e w1 ⟨rfl, hb⟩; obtain ⟨d0, d1, d2, d3, d4⟩ := HF.out _ hb)
      | (go_at_call 41; refine (HR.out _ _ (by first | exact pb | exact qb) (by first | exact HW.out _ | assumption)).mono ?_; rintro e w1 ⟨rfl, hb⟩; obtain ⟨d0, d1, d2, d3, d4⟩ := HF.out _ hb; fail))
    go_ret
    exact ⟨rfl, HO.out _ (by first | assumption | exact HW.out _)⟩
  cases rP
  · obtain rfl : R = false := by rw [hE]; simp
    clear hE
    go_enter Try.func11, Try.ntmps11
    go_wp2_with (first
      | (go_at_call 39; refine (HS.out _ (by first | exact HW.out _ | assumption)).mono ?_; rintro e w1 ⟨rfl, hb⟩; obtain ⟨d0, d1, d2, d3, d4⟩ := HF.out _ hb)
      | (go_at_call 40; refine (HB.out _ (by first | exact HW.out _ | assumption)).mono ?_; rintro e w1 ⟨rfl, hb⟩; obtain ⟨d0, d1, d2, d3, d4⟩ := HF.out _ hb)
      | (go_at_call 41; refine (HR.out _ _ (by first | exact pb | exact qb) (by first | exact HW.out _ | assumption)).mono ?_; rintro e w1 ⟨rfl, hb⟩; obtain ⟨d0, d1, d2, d3, d4⟩ := HF.out _ hb; rw [pP]))
    go_ret
    exact ⟨rfl, HO.out _ (by first | assumption | exact HW.out _)⟩
  obtain rfl : R = rQ := by rw [hE]; simp
  clear hE
  go_enter Try.func11, Try.ntmps11
  go_wp2_with (first
    | (go_at_call 39; refine (HS.out _ (by first | exact HW.out _ | assumption)).mono ?_; rintro e w1 ⟨rfl, hb⟩; obtain ⟨d0, d1, d2, d3, d4⟩ := HF.out _ hb)
    | (go_at_call 40; refine (HB.out _ (by first | exact HW.out _ | assumption)).mono ?_; rintro e w1 ⟨rfl, hb⟩; obtain ⟨d0, d1, d2, d3, d4⟩ := HF.out _ hb)
    | (go_at_call 41; refine (HR.out _ _ (by first | exact pb | exact qb) (by first | exact HW.out _ | assumption)).mono ?_; rintro e w1 ⟨rfl, hb⟩; obtain ⟨d0, d1, d2, d3, d4⟩ := HF.out _ hb; first | rw [pP] | rw [pQ]))
  go_ret
  exact ⟨rfl, HO.out _ (by first | assumption | exact HW.out _)⟩

set_option maxHeartbeats 1000000 in
theorem gprod0 (P Q G H : Int) (a : Option Addr) (n cap : Nat) (b : Option Addr) (len c : Nat) (F : Nat → Int) (w : World) (hl : len ≤ 1152921504606846976) (hin : FacsIn w b len F) :
    Calls Try.prog 38 #[gv P Q G H a n cap, .slice b len c] w fun e w' => e = .returned (.int .u64 (prodI P F len)) ∧ Old w w' := by
  have HI : Hid (FacsIn w b len F) := hin
  clear hin
  go_enter Try.func38, Try.ntmps38
  go_wp2_with fail
  go_loopw [5, 10] (fun nv iv wx => ∃ i : Nat, nv = .int .u64 (prodI P F i) ∧ iv = .int .i64 (i : Int) ∧ i ≤ len ∧ Beh w P Q G H a n cap wx) (fun _ iv _ => len - (intOf iv).toNat)
  case atStart => exact ⟨0, rfl, rfl, Nat.zero_le _, Beh.new ..⟩
  case round =>
    obtain ⟨i, rfl, rfl, hi, hbeh⟩ := hrel
    by_cases hlt : i < len
    · rcases HI.out.old hbeh.old with h0 | ⟨bb, off, rfl, hb, hr⟩
      · omega
      obtain ⟨c0, f0, f1⟩ := hr i hlt
      clear hr
      obtain ⟨m0, m1⟩ := prodI_bd P F i
      have c1 := hbeh.cell (j := 0) rfl
      have HS : Hid (prodI P F (i + 1) = mulI (prodI P F i) (F i) P) := rfl
      have HB : Hid (Beh w P Q G H a n cap wr) := hbeh
      clear hbeh
      generalize prodI P F i = m at *
      go_wp2_with (go_at_call 50; refine (mul_any _ _ _ _ m0 m1 f0 f1).mono ?_; rintro e w1 ⟨rfl, hd⟩)
      go_roundw
      case rel => exact ⟨i + 1, by rw [HS.out], idx_next i, by omega, HB.out.then ((Old.refl _).draws hd)⟩
      case measure => simp [intOf]; omega
    · have he : i = len := by omega
      subst he
      have HB : Hid (Beh w P Q G H a n cap wr) := hbeh
      clear hbeh
      go_wp2_with fail
      go_ret
      exact ⟨rfl, HB.out.old⟩

theorem gprod_any (P Q G H : Int) (a : Option Addr) (n cap : Nat) (b : Option Addr) (len c : Nat) (F : Nat → Int) (w : World) (_h4 : Four P Q G H) (_hr : Righ P Q G) (_hc : len ≤ c) (hl : len ≤ 1152921504606846976) (hin : FacsIn w b len F) :
    Calls Try.prog 38 #[gv P Q G H a n cap, .slice b len c] w fun e w' => e = .returned (.int .u64 (prodI P F len)) ∧ Old w w' := gprod0 P Q G H a n cap b len c F w hl hin

end Go.Proofs.Ythheogiiggiciad
