/-
  The contracts of the document's crossing (layer 5).
-/
import Derived.Test.YthheogiiggiciaeVref2
namespace Go.Proofs.Ythheogiiggiciae
open Go.RowKit

end Go.Proofs.Ythheogiiggiciae
