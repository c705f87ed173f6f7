/-
  The contract of prime.isNamed at this seat.
-/
import Derived.Test.YtmmicbdjafolpaeLie
import Derived.Test.YtmmicbdjafolpaeProg
namespace Go.Proofs.Ytmmicbdjafolpae
open Go.RowKit

end Go.Proofs.Ytmmicbdjafolpae
