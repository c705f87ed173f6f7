/-
  The contracts of the program's functions of layer 5: crossing.
-/
import Derived.Test.YtmmicbdjafolpafVgam2
namespace Go.Proofs.Ytmmicbdjafolpaf
open Go.RowKit

end Go.Proofs.Ytmmicbdjafolpaf
