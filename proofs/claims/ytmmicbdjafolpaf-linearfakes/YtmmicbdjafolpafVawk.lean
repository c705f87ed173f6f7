/-
  The statements' awake (layer 5).
-/
import Derived.Test.YtmmicbdjafolpafVall
import Derived.Deep.Heap
import Derived.Deep.WholeRow
namespace Go.Proofs.Ytmmicbdjafolpaf
open Go.RowKit

theorem sm_key : expI 2027 1013 4 7 = 168 := by decide +kernel
theorem sm_u : mulI 1 (expI 2027 1013 4 11) 2027 = 441 := by decide +kernel
theorem sm_v : mulI 36 (expI 2027 1013 168 11) 2027 = 740 := by decide +kernel
theorem sm_share : expI 2027 1013 441 7 = 471 := by decide +kernel
theorem sm_in : inI 2027 1013 471 = true := by decide +kernel
theorem sm_open : overI 2027 740 (prodI 2027 (fun _ => 471) 1) = 36 := by
  refine Righ.over_is (G := 4) small_righ ?_ (by decide) (by decide) ?_
  · decide +kernel
  · decide +kernel
theorem facs_one (w : World) (x : Int) (t : TypeId) (hx : U64 x) : FacsIn (w.alloc (.cells #[.int .u64 x] t)) (some ⟨w.heap.size, 0, none⟩) 1 (fun _ => x) := by
  refine Or.inr ⟨_, _, rfl, by simp, fun j hj => ?_⟩
  match j, hj with
  | 0, _ => exact ⟨(World.cell?_alloc_mark w _ t (0, 0) 0).trans rfl, hx.1, hx.2⟩
theorem u64_of {x : Int} (h : 0 ≤ x) (h' : x ≤ 18446744073709551615) : U64 x := ⟨h, h'⟩
theorem four_sm : Four 2027 1013 4 9 := ⟨by decide, by decide, by decide, by decide, by decide, by decide, by decide, by decide⟩
theorem pair_early {x W : World} {p q : Value} {t : TypeId} (h : Old (x.alloc (.cells #[p, q] t)) W) : W.heap[x.heap.size]? = some (.cells #[p, q] t (0, 0)) := by
  rw [h.block _ (by simp)]
  exact heap_alloc_last x _
theorem Lain.far {w W : World} {l : List (Array Value × TypeId)} (h : Lain w l W) {b : Nat} (hb : w.heap.size + l.length ≤ b) (j : Nat) (v : Value) : Lain w l (W.setCell ⟨b, j, none⟩ v) := by
  refine ⟨h.old.setCell (by show w.heap.size ≤ b; omega) _, fun i hi => ?_, by simpa [World.setCell] using h.size⟩
  rw [Deep.blk_setCell_other _ _ _ _ (by show w.heap.size + i ≠ b; omega)]
  exact h.row i hi
theorem pair_done {w W : World} {l : List (Array Value × TypeId)} {b : Nat} {p q : Value} {t : TypeId} (hL : Lain w l W) (hrow : W.heap[b]? = some (.cells #[p, q] t (0, 0))) (hb : w.heap.size + l.length ≤ b) (x y : Value) :
    Lain w l ((W.setCell ⟨b, 0, none⟩ x).setCell ⟨b, 1, none⟩ y) ∧ w.heap.size + l.length ≤ b ∧ ((W.setCell ⟨b, 0, none⟩ x).setCell ⟨b, 1, none⟩ y).cell? ⟨b, 0, none⟩ = some x ∧ ((W.setCell ⟨b, 0, none⟩ x).setCell ⟨b, 1, none⟩ y).cell? ⟨b, 1, none⟩ = some y := by
  have h := set_row (set_row hrow 0 x) 1 y
  refine ⟨(hL.far hb 0 x).far hb 1 y, hb, ?_, ?_⟩
  · rw [cell_of_row _ _ 0 _ _ (0, 0) h]; simp
  · rw [cell_of_row _ _ 1 _ _ (0, 0) h]; simp
theorem pair_last {w W : World} {l : List (Array Value × TypeId)} (hL : Lain w l W) (x y : Value) (t : TypeId) :
    Lain w l (W.alloc (.cells #[x, y] t)) ∧ w.heap.size + l.length ≤ W.heap.size ∧ (W.alloc (.cells #[x, y] t)).cell? ⟨W.heap.size, 0, none⟩ = some x ∧ (W.alloc (.cells #[x, y] t)).cell? ⟨W.heap.size, 1, none⟩ = some y :=
  ⟨hL.then ((Old.refl _).alloc _), hL.size, (World.cell?_alloc_mark W _ t (0, 0) 0).trans rfl, (World.cell?_alloc_mark W _ t (0, 0) 1).trans rfl⟩

end Go.Proofs.Ytmmicbdjafolpaf
