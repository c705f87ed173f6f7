/-
  The contract of prime.isNamed at this seat.
-/
import Derived.Test.YthheogiiggiciaeLie
import Derived.Test.YthheogiiggiciaeProg
namespace Go.Proofs.Ythheogiiggiciae
open Go.RowKit

end Go.Proofs.Ythheogiiggiciae
