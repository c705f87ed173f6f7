/-
  The document's Prod (layer 4).
-/
import Derived.Test.YtmmicbdjafolpaeGfew
namespace Go.Proofs.Ytmmicbdjafolpae
open Go.RowKit

/-- A product. -/
def prodI (P : Int) (F : Nat → Int) : Nat → Int
  | 0 => 1
  | k + 1 => mulI (prodI P F k) (F k) P
theorem prodI_bd (P : Int) (F : Nat → Int) : ∀ k, 0 ≤ prodI P F k ∧ prodI P F k ≤ 18446744073709551615
  | 0 => by show (0 : Int) ≤ 1 ∧ (1 : Int) ≤ _; omega
  | k + 1 => by
    have := mulI_bd (prodI P F k) (F k) P
    show 0 ≤ mulI _ _ _ ∧ mulI _ _ _ ≤ _
    omega

end Go.Proofs.Ytmmicbdjafolpae
