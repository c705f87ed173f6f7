/-
  The document's Right (layer 4).
-/
import Derived.Test.YtmmicbdjafolpaeGref
namespace Go.Proofs.Ytmmicbdjafolpae
open Go.RowKit

/-- A group, laid out. -/
abbrev go (P Q G H : Int) (a : Option Addr) (n cap : Nat) (t : TypeId) : Obj := .cells #[.int .u64 P, .int .u64 Q, .int .u64 G, .int .u64 H, .slice a n cap] t
/-- Behind a group that was laid out. -/
def Beh (w : World) (P Q G H : Int) (a : Option Addr) (n cap : Nat) (w' : World) : Prop := ∃ t, Old (w.alloc (go P Q G H a n cap t)) w'
theorem Beh.old {w w' : World} {P Q G H : Int} {a : Option Addr} {n cap : Nat} (h : Beh w P Q G H a n cap w') : Old w w' := by
  obtain ⟨t, h⟩ := h
  exact ((Old.refl w).alloc _).trans h
theorem Beh.new (w : World) (P Q G H : Int) (a : Option Addr) (n cap : Nat) (t : TypeId) : Beh w P Q G H a n cap (w.alloc (go P Q G H a n cap t)) := ⟨t, Old.refl _⟩
theorem Beh.then {w w1 w2 : World} {P Q G H : Int} {a : Option Addr} {n cap : Nat} (h : Beh w P Q G H a n cap w1) (k : Old w1 w2) : Beh w P Q G H a n cap w2 := by
  obtain ⟨t, h⟩ := h
  exact ⟨t, h.trans k⟩
theorem Beh.cell {w w' : World} {P Q G H : Int} {a : Option Addr} {n cap : Nat} (h : Beh w P Q G H a n cap w') {j : Nat} {v : Value} (hv : (#[.int .u64 P, .int .u64 Q, .int .u64 G, .int .u64 H, .slice a n cap] : Array Value)[j]? = some v) : w'.cell? ⟨w.heap.size, j, none⟩ = some v := by
  obtain ⟨t, h⟩ := h
  exact h.cellOf ((gcell w t j).trans hv)
theorem FacsIn.old {w w' : World} {a : Option Addr} {len : Nat} {F : Nat → Int} (h : FacsIn w a len F) (hb : Old w w') : FacsIn w' a len F := by
  rcases h with h | ⟨b, off, ha, hl, hc⟩
  · exact Or.inl h
  · exact Or.inr ⟨b, off, ha, Nat.lt_of_lt_of_le hl hb.size, fun j hj => ⟨(hb.cell hl).trans (hc j hj).1, (hc j hj).2⟩⟩
theorem RowAt.old {w w' : World} {b off : Nat} {n A : Int} {FA : Option Addr} {L C : Nat} {F : Nat → Int} (h : RowAt w b off n A FA L C F) (hl : b < w.heap.size) (hb : Old w w') : RowAt w' b off n A FA L C F where
  c0 := (hb.cell hl).trans h.c0
  c1 := (hb.cell hl).trans h.c1
  c2 := (hb.cell hl).trans h.c2
  n0 := h.n0
  n1 := h.n1
  a0 := h.a0
  a1 := h.a1
  l0 := h.l0
  l1 := h.l1
  facs := h.facs.old hb
theorem RowsIn.old {w w' : World} {a : Option Addr} {n : Nat} {N A : Nat → Int} {FA : Nat → Option Addr} {L C : Nat → Nat} {F : Nat → Nat → Int} (h : RowsIn w a n N A FA L C F) (hb : Old w w') : RowsIn w' a n N A FA L C F := by
  rcases h with h | ⟨b, off, ha, hl, hc⟩
  · exact Or.inl h
  · exact Or.inr ⟨b, off, ha, Nat.lt_of_lt_of_le hl hb.size, fun i hi => (hc i hi).old hl hb⟩

/-- A group? -/
def rightI (P Q G H : Int) (N A : Nat → Int) (F : Nat → Nat → Int) (L : Nat → Nat) (n : Nat) : Bool :=
  decide (5 ≤ Q) && decide (Q < 2305843009213693952) && (P == 2 * Q + 1) && provedB N A F L n P && provedB N A F L n Q && inI P Q G && inI P Q H && !(G == 1) && !(H == 1) && !(G == H)

set_option maxHeartbeats 1000000 in
theorem rright_any (P Q G H : Int) (a : Option Addr) (n cap : Nat) (N A : Nat → Int) (FA : Nat → Option Addr) (L C : Nat → Nat) (F : Nat → Nat → Int) (w : World) (hn : n ≤ 80) (hin : RowsIn w a n N A FA L C F)
    (q0 : 0 ≤ Q) (q1 : Q ≤ 18446744073709551615) (g1 : G ≤ 18446744073709551615) (h1 : H ≤ 18446744073709551615) :
    Calls Try.prog 39 #[gv P Q G H a n cap] w fun e w' => e = .returned (.bool (rightI P Q G H N A F L n)) ∧ Old w w' := by
  have HW : Hid (∀ t, Beh w P Q G H a n cap (w.alloc (go P Q G H a n cap t))) := fun t => Beh.new w P Q G H a n cap t
  have HR : Hid (∀ x wx, Beh w P Q G H a n cap wx → Calls Try.prog 59 #[.int .u64 x, .slice a n cap] wx fun e w' => e = .returned (.bool (provedB N A F L n x)) ∧ Beh w P Q G H a n cap w') :=
    fun x wx hb => (rproved_any x a n cap N A FA L C F wx hn (hin.old hb.old)).mono fun e w' ⟨h, k⟩ => ⟨h, hb.then (Old.ofBelow k)⟩
  have HI : Hid (∀ x wx, x ≤ 18446744073709551615 → Beh w P Q G H a n cap wx → Calls Try.prog 40 #[gv P Q G H a n cap, .int .u64 x] wx fun e w' => e = .returned (.bool (inI P Q x)) ∧ Beh w P Q G H a n cap w') :=
    fun x wx hx hb => (rin_any P Q G H x a n cap wx q0 q1 hx).mono fun e w' ⟨h, k⟩ => ⟨h, hb.then k⟩
  have HO : Hid (∀ w', Beh w P Q G H a n cap w' → Old w w') := fun _ h => h.old
  have HF : Hid (∀ w', Beh w P Q G H a n cap w' → w'.cell? ⟨w.heap.size, 0, none⟩ = some (.int .u64 P) ∧ w'.cell? ⟨w.heap.size, 1, none⟩ = some (.int .u64 Q) ∧ w'.cell? ⟨w.heap.size, 2, none⟩ = some (.int .u64 G) ∧ w'.cell? ⟨w.heap.size, 3, none⟩ = some (.int .u64 H) ∧ w'.cell? ⟨w.heap.size, 4, none⟩ = some (.slice a n cap)) :=
    fun _ h => ⟨h.cell rfl, h.cell rfl, h.cell rfl, h.cell rfl, h.cell rfl⟩
  clear hin hn
  have HE : Hid (rightI P Q G H N A F L n = (decide (5 ≤ Q) && decide (Q < 2305843009213693952) && (P == 2 * Q + 1) && provedB N A F L n P && provedB N A F L n Q && inI P Q G && inI P Q H && !(G == 1) && !(H == 1) && !(G == H))) := rfl
  generalize rightI P Q G H N A F L n = R at *
  by_cases c1 : 5 ≤ Q
  case neg =>
    rw [show R = false by rw [HE.out]; simp [c1]]
    go_enter Try.func39, Try.ntmps39
    go_wp2_with fail
    go_ret
    exact ⟨rfl, HO.out _ (HW.out _)⟩
  by_cases c2 : Q < 2305843009213693952
  case neg =>
    rw [show R = false by rw [HE.out]; simp [c2]]
    go_enter Try.func39, Try.ntmps39
    go_wp2_with fail
    go_ret
    exact ⟨rfl, HO.out _ (HW.out _)⟩
  by_cases c3 : P = 2 * Q + 1
  case neg =>
    rw [show R = false by rw [HE.out]; simp [c3]]
    have c3 : (P != 2 * Q + 1) = true := by simp [c3]
    go_enter Try.func39, Try.ntmps39
    go_wp2_with fail
    go_ret
    exact ⟨rfl, HO.out _ (HW.out _)⟩
  have hE : R = (provedB N A F L n P && provedB N A F L n Q && inI P Q G && inI P Q H && !(G == 1) && !(H == 1) && !(G == H)) := by rw [HE.out]; simp [c1, c2, c3]
  clear HE
  have c4 : (P != 2 * Q + 1) = false := by simp [c3]
  clear c3
  cases pP : provedB N A F L n P
  · rw [show R = false by rw [hE]; simp [pP]]
    clear hE
    go_enter Try.func39, Try.ntmps39
    go_wp2_with (first
      | (go_at_call 59; refine (HR.out _ _ (by first | exact HW.out _ | assumption)).mono ?_; rintro e w1 ⟨rfl, hb⟩; obtain ⟨d0, d1, d2, d3, d4⟩ := HF.out _ hb; first | rw [pP])
      | (go_at_call 40; refine (HI.out _ _ (by assumption) (by first | exact HW.out _ | assumption)).mono ?_; rintro e w1 ⟨rfl, hb⟩; obtain ⟨d0, d1, d2, d3, d4⟩ := HF.out _ hb; first | fail))
    go_ret
    exact ⟨rfl, HO.out _ (by assumption)⟩
  cases pQ : provedB N A F L n Q
  · rw [show R = false by rw [hE]; simp [pQ]]
    clear hE
    go_enter Try.func39, Try.ntmps39
    go_wp2_with (first
      | (go_at_call 59; refine (HR.out _ _ (by first | exact HW.out _ | assumption)).mono ?_; rintro e w1 ⟨rfl, hb⟩; obtain ⟨d0, d1, d2, d3, d4⟩ := HF.out _ hb; first | rw [pP] | rw [pQ])
      | (go_at_call 40; refine (HI.out _ _ (by assumption) (by first | exact HW.out _ | assumption)).mono ?_; rintro e w1 ⟨rfl, hb⟩; obtain ⟨d0, d1, d2, d3, d4⟩ := HF.out _ hb; first | fail))
    go_ret
    exact ⟨rfl, HO.out _ (by assumption)⟩
  cases iG : inI P Q G
  · rw [show R = false by rw [hE]; simp [iG]]
    clear hE
    go_enter Try.func39, Try.ntmps39
    go_wp2_with (first
      | (go_at_call 59; refine (HR.out _ _ (by first | exact HW.out _ | assumption)).mono ?_; rintro e w1 ⟨rfl, hb⟩; obtain ⟨d0, d1, d2, d3, d4⟩ := HF.out _ hb; first | rw [pP] | rw [pQ])
      | (go_at_call 40; refine (HI.out _ _ (by assumption) (by first | exact HW.out _ | assumption)).mono ?_; rintro e w1 ⟨rfl, hb⟩; obtain ⟨d0, d1, d2, d3, d4⟩ := HF.out _ hb; first | rw [iG]))
    go_ret
    exact ⟨rfl, HO.out _ (by assumption)⟩
  cases iH : inI P Q H
  · rw [show R = false by rw [hE]; simp [iH]]
    clear hE
    go_enter Try.func39, Try.ntmps39
    go_wp2_with (first
      | (go_at_call 59; refine (HR.out _ _ (by first | exact HW.out _ | assumption)).mono ?_; rintro e w1 ⟨rfl, hb⟩; obtain ⟨d0, d1, d2, d3, d4⟩ := HF.out _ hb; first | rw [pP] | rw [pQ])
      | (go_at_call 40; refine (HI.out _ _ (by assumption) (by first | exact HW.out _ | assumption)).mono ?_; rintro e w1 ⟨rfl, hb⟩; obtain ⟨d0, d1, d2, d3, d4⟩ := HF.out _ hb; first | rw [iG] | rw [iH]))
    go_ret
    exact ⟨rfl, HO.out _ (by assumption)⟩
  rw [show R = (G != 1 && H != 1 && G != H) by rw [hE, pP, pQ, iG, iH]; simp [bne]]
  clear hE
  go_enter Try.func39, Try.ntmps39
  go_wp2_with (first
    | (go_at_call 59; refine (HR.out _ _ (by first | exact HW.out _ | assumption)).mono ?_; rintro e w1 ⟨rfl, hb⟩; obtain ⟨d0, d1, d2, d3, d4⟩ := HF.out _ hb; first | rw [pP] | rw [pQ])
    | (go_at_call 40; refine (HI.out _ _ (by assumption) (by first | exact HW.out _ | assumption)).mono ?_; rintro e w1 ⟨rfl, hb⟩; obtain ⟨d0, d1, d2, d3, d4⟩ := HF.out _ hb; first | rw [iG] | rw [iH]))
  all_goals (go_ret; refine ⟨?_, HO.out _ (by assumption)⟩)
  · exact ret_bool (by rw [‹G = 1›]; simp)
  · exact ret_bool (by rw [‹H = 1›]; simp)
  · rfl

end Go.Proofs.Ytmmicbdjafolpae
