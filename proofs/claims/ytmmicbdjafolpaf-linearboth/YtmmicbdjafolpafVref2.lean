/-
  The contracts of the document's functions of layer 5 (the second part).
-/
import Derived.Test.YtmmicbdjafolpafVref
namespace Go.Proofs.Ytmmicbdjafolpaf
open Go.RowKit

end Go.Proofs.Ytmmicbdjafolpaf
