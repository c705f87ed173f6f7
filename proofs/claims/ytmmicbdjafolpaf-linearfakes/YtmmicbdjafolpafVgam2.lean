/-
  The contracts of the program's functions of layer 5 (the second part).
-/
import Derived.Test.YtmmicbdjafolpafVgam
namespace Go.Proofs.Ytmmicbdjafolpaf
open Go.RowKit

end Go.Proofs.Ytmmicbdjafolpaf
