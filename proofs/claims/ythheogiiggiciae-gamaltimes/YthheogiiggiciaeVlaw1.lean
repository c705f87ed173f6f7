/-
  The statement's walk (layer 5): GamalSeals.
-/
import Derived.Test.YthheogiiggiciaeVawk
namespace Go.Proofs.Ythheogiiggiciae
open Go.RowKit

def four5 (a b c d : Int) : Nat → Int | 0 => a | 1 => b | 2 => c | _ => d
theorem facs_four (w : World) (a b c d : Int) (t : TypeId) (ha : U64 a) (hb : U64 b) (hc : U64 c) (hd : U64 d) : FacsIn (w.alloc (.cells #[.int .u64 a, .int .u64 b, .int .u64 c, .int .u64 d] t)) (some ⟨w.heap.size, 0, none⟩) 4 (four5 a b c d) := by
  refine Or.inr ⟨_, _, rfl, by simp, fun j hj => ?_⟩
  match j, hj with
  | 0, _ => exact ⟨(World.cell?_alloc_mark w _ t (0, 0) 0).trans rfl, ha.1, ha.2⟩
  | 1, _ => exact ⟨(World.cell?_alloc_mark w _ t (0, 0) 1).trans rfl, hb.1, hb.2⟩
  | 2, _ => exact ⟨(World.cell?_alloc_mark w _ t (0, 0) 2).trans rfl, hc.1, hc.2⟩
  | 3, _ => exact ⟨(World.cell?_alloc_mark w _ t (0, 0) 3).trans rfl, hd.1, hd.2⟩

end Go.Proofs.Ythheogiiggiciae
