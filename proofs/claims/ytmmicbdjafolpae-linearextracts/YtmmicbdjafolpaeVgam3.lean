/-
  The contracts of the program's functions of layer 5: crossing.
-/
import Derived.Test.YtmmicbdjafolpaeVgam2
namespace Go.Proofs.Ytmmicbdjafolpae
open Go.RowKit

end Go.Proofs.Ytmmicbdjafolpae
