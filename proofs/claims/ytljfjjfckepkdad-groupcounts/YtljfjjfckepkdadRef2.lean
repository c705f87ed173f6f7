/-
  The contracts of the document's ahead, holds, Holds and Proved (layer 2) at this seat.
-/
import Derived.Test.YtljfjjfckepkdadRowh
import Derived.Deep.CutRange
import Derived.Deep.RegionWith
namespace Go.Proofs.Ytljfjjfckepkdad
open Go.RowKit

/-- One of the first k numbers. -/
def aheadB (N : Nat → Int) (k : Nat) (x : Int) : Bool := (List.range k).any fun i => N i == x
theorem aheadB_iff {N : Nat → Int} {k : Nat} {x : Int} : aheadB N k x = true ↔ ∃ i, i < k ∧ N i = x := by
  unfold aheadB
  simp [List.any_eq_true]
theorem aheadB_no {N : Nat → Int} {k : Nat} {x : Int} (h : ∀ i, i < k → N i ≠ x) : aheadB N k x = false := no_of fun hc => by
  obtain ⟨i, hi, he⟩ := aheadB_iff.1 hc
  exact h i hi he
theorem named_ahead {N : Nat → Int} {k : Nat} {x : Int} : namedB N k x = (x == 2 || aheadB N k x) := rfl

/-- The factor at place i is the first, or above the one ahead. -/
def Rises (F : Nat → Int) (i : Nat) : Prop := i = 0 ∨ F (i - 1) < F i

/-- What the loop of the document's holds has seen of the factors ahead of place i. -/
def Seen (n A : Int) (F : Nat → Int) (N : Nat → Int) (k : Nat) (i : Nat) : Prop := ∀ j, j < i → (Rises F j ∧ namedB N k (F j) = true) ∧ powI A ((n - 1) / F j) n ≠ 1

theorem rrow_end {n A : Int} {F : Nat → Int} {L : Nat} {N : Nat → Int} {k : Nat} {s : Int} (h0 : 3 ≤ n) (h1 : n ≤ 4611686018427387904) (hL : 1 ≤ L ∧ L ≤ 16) (hs : Seen n A F N k L) (hp : partsG F (L - L) L s = partsG F L 0 (n - 1)) :
    rowB n A F L N k = ((s == 1) && powI A (n - 1) n == 1) := by
  have e1 : standB F L N k = true := standB_iff.2 ⟨hL, fun j hj => (hs j hj).1⟩
  have e2 : orderB n A F L = (powI A (n - 1) n == 1) := by
    unfold orderB
    have : ((List.range L).all fun j => !(powI A ((n - 1) / F j) n == 1)) = true := by
      simp only [List.all_eq_true, List.mem_range]
      intro j hj
      simpa using (hs j hj).2
    rw [this, Bool.and_true]
  rw [row_eq h0 h1, e1, e2, ← hp, parts_end, Bool.true_and]

theorem rrow_no1 {n A : Int} {F : Nat → Int} {L : Nat} {N : Nat → Int} {k i : Nat} (hN : ∀ i, i < k → 3 ≤ N i) (hi : i < L) (h : F i < 2) : rowB n A F L N k = false := no_of fun hc => by
  have := stand_two (rowB_iff.1 hc).2.2.1 hN i hi
  omega
theorem rrow_no2 {n A : Int} {F : Nat → Int} {L : Nat} {N : Nat → Int} {k i : Nat} (hi : i + 1 < L) (h : F (i + 1) ≤ F i) : rowB n A F L N k = false := no_of fun hc => by
  have := (rowB_iff.1 hc).2.2.1
  rw [stand_no2 hi (by omega) (by simpa using h)] at this
  cases this
theorem rrow_no3 {n A : Int} {F : Nat → Int} {L : Nat} {N : Nat → Int} {k i : Nat} (hi : i < L) (h : namedB N k (F i) = false) : rowB n A F L N k = false := no_of fun hc => by
  have := (rowB_iff.1 hc).2.2.1
  rw [stand_no3 hi h] at this
  cases this
theorem rrow_no4 {n A : Int} {F : Nat → Int} {L : Nat} {N : Nat → Int} {k i : Nat} {s : Int} (hi : i < L) (hp : partsG F (L - i) i s = partsG F L 0 (n - 1)) (h : s % F i ≠ 0) : rowB n A F L N k = false := no_of fun hc => by
  have := (rowB_iff.1 hc).2.2.2.1
  rw [← hp, parts_no hi h] at this
  cases this
theorem rrow_no5 {n A : Int} {F : Nat → Int} {L : Nat} {N : Nat → Int} {k i : Nat} (hi : i < L) (h : powI A ((n - 1) / F i) n = 1) : rowB n A F L N k = false := no_of fun hc => by
  have := (rowB_iff.1 hc).2.2.2.2
  rw [order_no2 hi h] at this
  cases this
theorem rrow_no6 {n A : Int} {F : Nat → Int} {L : Nat} {N : Nat → Int} {k : Nat} (h : ¬ (1 ≤ L ∧ L ≤ 16)) : rowB n A F L N k = false := no_of fun hc => by
  have := (rowB_iff.1 hc).2.2.1
  rw [stand_no1 h] at this
  cases this

end Go.Proofs.Ytljfjjfckepkdad
