/-
  The contracts of the document's crossing (layer 5).
-/
import Derived.Test.YtmmicbdjafolpafVref2
namespace Go.Proofs.Ytmmicbdjafolpaf
open Go.RowKit

end Go.Proofs.Ytmmicbdjafolpaf
