/-
  The contracts of the document's functions of layer 5 (the second part).
-/
import Derived.Test.YtmmicbdjafolpaeVref
namespace Go.Proofs.Ytmmicbdjafolpae
open Go.RowKit

end Go.Proofs.Ytmmicbdjafolpae
