/-
  The contract of prime.isNamed at this seat.
-/
import Derived.Test.YtmmicbdjafolpafLie
import Derived.Test.YtmmicbdjafolpafProg
namespace Go.Proofs.Ytmmicbdjafolpaf
open Go.RowKit

end Go.Proofs.Ytmmicbdjafolpaf
