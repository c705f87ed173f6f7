/-
  The contracts of the document's In, Exp, Lay, Back and Right (layer 4).
-/
import Derived.Test.YtljfjjfckepkdadGmath
import Derived.Test.YtljfjjfckepkdadRef3
import Derived.Test.YtljfjjfckepkdadOld
import Derived.Laws.IdiomStrings
namespace Go.Proofs.Ytljfjjfckepkdad
open Go.RowKit

/-- A group as a value. -/
abbrev gv (P Q G H : Int) (a : Option Addr) (n cap : Nat) : Value := .agg #[.int .u64 P, .int .u64 Q, .int .u64 G, .int .u64 H, .slice a n cap]
theorem gcell {P Q G H : Int} {a : Option Addr} {n cap : Nat} (w : World) (t : TypeId) (j : Nat) : (w.alloc (.cells #[.int .u64 P, .int .u64 Q, .int .u64 G, .int .u64 H, .slice a n cap] t)).cell? ⟨w.heap.size, j, none⟩ = (#[.int .u64 P, .int .u64 Q, .int .u64 G, .int .u64 H, .slice a n cap] : Array Value)[j]? := World.cell?_alloc_mark w _ t (0, 0) j
def inI (P Q x : Int) : Bool := decide (1 ≤ x) && decide (x < P) && (powI x Q P == 1)
theorem inI_iff {P Q x : Int} : inI P Q x = true ↔ 1 ≤ x ∧ x < P ∧ powI x Q P = 1 := by
  unfold inI
  simp [and_assoc]

/-- What a number is laid on; whether it is. -/
def layI (P Q k : Int) : Int := if Q ≤ k then 0 else if inI P Q (k + 1) then k + 1 else (P - k - 1) % 18446744073709551616
def layB (Q k : Int) : Bool := !decide (Q ≤ k)
def backI (P Q x : Int) : Int := if inI P Q x then (if x ≤ Q then x - 1 else (P - x - 1) % 18446744073709551616) else 0

def expI (P Q x e : Int) : Int := if Q < 2 then 0 else powI x (e % Q) P
end Go.Proofs.Ytljfjjfckepkdad
