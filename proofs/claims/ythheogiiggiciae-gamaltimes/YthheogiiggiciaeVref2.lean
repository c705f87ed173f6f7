/-
  The contracts of the document's functions of layer 5 (the second part).
-/
import Derived.Test.YthheogiiggiciaeVref
namespace Go.Proofs.Ythheogiiggiciae
open Go.RowKit

end Go.Proofs.Ythheogiiggiciae
