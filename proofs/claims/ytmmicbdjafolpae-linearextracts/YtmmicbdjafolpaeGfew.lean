/-
  The statements' few (layer 4).
-/
import Derived.Test.YtmmicbdjafolpaeGnum
namespace Go.Proofs.Ytmmicbdjafolpae
open Go.RowKit

/-- Up to 80 rows of up to 40 factors. -/
def fewB (L : Nat → Nat) (n : Nat) : Bool := decide (n ≤ 80) && (List.range n).all fun i => decide (L i ≤ 40)
theorem fewB_iff {L : Nat → Nat} {n : Nat} : fewB L n = true ↔ n ≤ 80 ∧ ∀ i, i < n → L i ≤ 40 := by
  unfold fewB
  simp [List.all_eq_true]

end Go.Proofs.Ytmmicbdjafolpae
