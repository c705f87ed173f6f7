/-
  The contracts of prime.Holds, Proved and of the statement's small at this seat.
-/
import Derived.Test.YtmmicbdjafolpaeRowh
import Derived.Deep.RegionWith
namespace Go.Proofs.Ytmmicbdjafolpae
open Go.RowKit

theorem proved_eq (N A : Nat → Int) (F : Nat → Nat → Int) (L : Nat → Nat) (n : Nat) (x : Int) : provedB N A F L n x = (holdsB N A F L n && namedB N n x) := rfl

/-- Up to 80 rows of up to 40 factors. -/
def smallB (L : Nat → Nat) (n : Nat) : Bool := decide (n ≤ 80) && (List.range n).all fun i => decide (L i ≤ 40)
theorem smallB_iff {L : Nat → Nat} {n : Nat} : smallB L n = true ↔ n ≤ 80 ∧ ∀ i, i < n → L i ≤ 40 := by
  unfold smallB
  simp [List.all_eq_true]

end Go.Proofs.Ytmmicbdjafolpae
