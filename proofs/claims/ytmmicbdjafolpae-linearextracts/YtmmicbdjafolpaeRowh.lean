/-
  The contracts of prime.hasFullOrder and rowHolds at this seat.
-/
import Derived.Test.YtmmicbdjafolpaeFacs
namespace Go.Proofs.Ytmmicbdjafolpae
open Go.RowKit

theorem order_no1 {n A : Int} {F : Nat → Int} {L : Nat} (h : powI A (n - 1) n ≠ 1) : orderB n A F L = false := no_of fun hc => h (orderB_iff.1 hc).1
theorem order_no2 {n A : Int} {F : Nat → Int} {L j : Nat} (hj : j < L) (h : powI A ((n - 1) / F j) n = 1) : orderB n A F L = false := no_of fun hc => (orderB_iff.1 hc).2 j hj h

theorem quo_le {m f : Int} (hm : 0 ≤ m) (hf : 2 ≤ f) : 0 ≤ m / f ∧ m / f ≤ m := ⟨Int.ediv_nonneg hm (by omega), Int.ediv_le_self _ hm⟩

/-- A new block of three cells holds them still behind whatever leaves old memory alone. -/
theorem box_below {w w' : World} {x y z : Value} {t : TypeId} (h : Below (w.alloc (.cells #[x, y, z] t)).heap.size (w.alloc (.cells #[x, y, z] t)) w') :
    w'.cell? ⟨w.heap.size, 0, none⟩ = some x ∧ w'.cell? ⟨w.heap.size, 1, none⟩ = some y ∧ w'.cell? ⟨w.heap.size, 2, none⟩ = some z ∧ Below w.heap.size w w' := by
  refine ⟨(h.cell (by simp)).trans (by simp), (h.cell (by simp)).trans (by simp), (h.cell (by simp)).trans (by simp), below_then (below_new (Below.refl _ _) _) h⟩

theorem row_no {n A : Int} {F : Nat → Int} {L : Nat} {N : Nat → Int} {k : Nat} (h : ¬ (3 ≤ n ∧ n ≤ 4611686018427387904)) : rowB n A F L N k = false := no_of fun hc => h ⟨(rowB_iff.1 hc).1, (rowB_iff.1 hc).2.1⟩
theorem row_eq {n A : Int} {F : Nat → Int} {L : Nat} {N : Nat → Int} {k : Nat} (h0 : 3 ≤ n) (h1 : n ≤ 4611686018427387904) : rowB n A F L N k = (standB F L N k && partsG F L 0 (n - 1) && orderB n A F L) := by
  unfold rowB
  simp [h0, h1]

end Go.Proofs.Ytmmicbdjafolpae
