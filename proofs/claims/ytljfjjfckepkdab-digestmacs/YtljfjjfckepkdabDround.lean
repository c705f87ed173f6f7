/-
  The program's numbers K, written out, are the document's (layer 3).
-/
import Derived.Test.YtljfjjfckepkdabDspread
import Derived.Laws.Tables
namespace Go.Proofs.Ytljfjjfckepkdab
open Go.RowKit

theorem wpList_build_of {P : Program} {ops : Array Oper} {rest : List Oper} {o : Oper} {a : Act} {w : World} {Q : Exit → Act → World → Prop} (hg : o.guard = none) (t : TypeId) (parts : Array (Nat × Operand)) (ho : o.op = .build t parts)
    (cells : Array Value) (hf : P.built t (parts.map fun (i, x) => (i, a.eval x)).toList = some cells) (h : wpList P ops Q rest (a.put o.dst (.agg cells)) w) : wpList P ops Q (o :: rest) a w :=
  wpList_build hg t parts ho (by rw [hf]; rfl) (by rw [hf]; exact h)

set_option maxRecDepth 100000 in
set_option maxHeartbeats 4000000 in
theorem dround_any (w : World) : Calls Try.prog 49 #[] w fun e w' => e = .returned (.agg (arr 64 fun i => .int .u32 (kS i))) ∧ Old w w' := by
  go_enter Try.func49, Try.ntmps49
  go_upto_region 1 with fail
  refine wp_region_lit ?_
  refine wpList_build_of rfl 76 _ rfl (arr 64 fun i => .int .u32 (kS i)) (by kernel_rfl) ?_
  have hz := row_new w 76 64 (fun _ => .int .u32 0)
  change wpList _ _ _ _ _ (w.alloc (.cells (arr 64 fun _ => .int .u32 0) 76))
  refine wpList_store_row rfl 76 _ _ rfl w.heap.size (arr 64 fun i => .int .u32 (kS i)) rfl rfl _ _ (row_arr hz) (by rw [arr_size]; exact info64) (by rw [arr_size, arr_size]) (arr_one _) ?_
  refine wpList_nil ?_
  go_wp2_with fail
  refine bodyPost_ret (v := .agg (arr 64 fun i => .int .u32 (kS i))) (results_cell (b := w.heap.size) rfl rfl (load_arr (row_set hz _) Try.underlying76 info64)) rfl ⟨rfl, ((Old.refl w).alloc _).setRow (Nat.le_refl _) _⟩

end Go.Proofs.Ytljfjjfckepkdab
