/-
  The contracts of the document's Holds and Proved (layer 2) at this seat.
-/
import Derived.Test.YtljfjjfckepkdadRef2
namespace Go.Proofs.Ytljfjjfckepkdad
open Go.RowKit

end Go.Proofs.Ytljfjjfckepkdad
