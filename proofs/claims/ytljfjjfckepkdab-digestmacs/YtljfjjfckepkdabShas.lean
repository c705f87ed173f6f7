/-
  The contracts of the document's turn, ks and Sum (layer 3).
-/
import Derived.Test.YtljfjjfckepkdabSha
import Derived.Deep.OwnRows
namespace Go.Proofs.Ytljfjjfckepkdab
open Go.RowKit

theorem turn_any (x : Int) (n : Nat) (w : World) (n1 : n ≤ 32) :
    Calls Try.prog 42 #[.int .u32 x, .int .i64 (n : Int)] w fun e w' => e = .returned (.int .u32 (rot x n)) ∧ ∃ n, w' = w.drewN n := by
  go_enter Try.func42, Try.ntmps42
  go_wp2_with fail
  go_quiet (fail)
  go_wp2
  go_ret
  exact ⟨rfl, _, rfl⟩

theorem ks_any (w : World) : Calls Try.prog 40 #[] w fun e w' => e = .returned (.slice (some ⟨w.heap.size, 0, none⟩) 64 64) ∧ w' = w.alloc (.cells (kList.map (Value.int .u32)).toArray 54) := by
  go_enter Try.func40, Try.ntmps40
  go_wp2
  go_ret
  exact ⟨rfl, rfl⟩

end Go.Proofs.Ytljfjjfckepkdab
