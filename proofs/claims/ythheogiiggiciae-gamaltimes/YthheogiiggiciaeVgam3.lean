/-
  The contracts of the program's functions of layer 5: crossing.
-/
import Derived.Test.YthheogiiggiciaeVgam2
namespace Go.Proofs.Ythheogiiggiciae
open Go.RowKit

end Go.Proofs.Ythheogiiggiciae
