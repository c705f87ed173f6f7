/-
  The contracts of the document's functions of layer 5, and of its quotient (layer 4).
-/
import Derived.Test.YtmmicbdjafolpafVwor
namespace Go.Proofs.Ytmmicbdjafolpaf
open Go.RowKit

theorem inI_bd5 {P Q G y : Int} (h : Righ P Q G) (hy : inI P Q y = true) : 0 ≤ y ∧ y ≤ 18446744073709551615 := by
  have := h.lt hy; have := h.two; have := h.q1
  omega

end Go.Proofs.Ytmmicbdjafolpaf
