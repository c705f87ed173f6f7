/-
  The contracts of the document's crossing (layer 5).
-/
import Derived.Test.YtmmicbdjafolpaeVref2
namespace Go.Proofs.Ytmmicbdjafolpae
open Go.RowKit

end Go.Proofs.Ytmmicbdjafolpae
