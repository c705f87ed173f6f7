/-
  Whole arrays as values: laid in a row, taken out of one (layer 3).
-/
import Derived.Test.YtljfjjfckepkdabDnum
import Derived.Deep.WholeRow
namespace Go.Proofs.Ytljfjjfckepkdab
open Go.RowKit

/-- An array of n elements, by the index. -/
def arr (n : Nat) (f : Nat → Value) : Array Value := ((List.range n).map f).toArray
theorem arr_size (n : Nat) (f : Nat → Value) : (arr n f).size = n := by simp [arr]
theorem arr_at {n : Nat} {f : Nat → Value} {i : Nat} (h : i < n) : (arr n f)[i]? = some (f i) := by simp [arr, h]
theorem arr_of {n : Nat} {f : Nat → Value} {c : Array Value} (hs : c.size = n) (h : ∀ i, i < n → c[i]? = some (f i)) : c = arr n f := by
  apply Array.ext_getElem?
  intro i
  by_cases hi : i < n
  · rw [h i hi, arr_at hi]
  · rw [Array.getElem?_eq_none (by omega), Array.getElem?_eq_none (by rw [arr_size]; omega)]
theorem arr_congr {n : Nat} {f g : Nat → Value} (h : ∀ i, i < n → f i = g i) : arr n f = arr n g :=
  arr_of (arr_size _ _) fun i hi => by rw [arr_at hi, h i hi]
theorem row_arr {w : World} {b : Nat} {t : TypeId} {n : Nat} {f : Nat → Value} (h : w.rowIs b t n f) : w.heap[b]? = some (.cells (arr n f) t (0, 0)) := by
  obtain ⟨c, hb, hn, hc⟩ := h
  rw [hb, arr_of hn hc]
theorem row_new (w : World) (t : TypeId) (n : Nat) (f : Nat → Value) : (w.alloc (.cells (arr n f) t)).rowIs w.heap.size t n f := by
  have := World.rowIs_alloc w (arr n f) t f (fun i hi => arr_at (by rwa [arr_size] at hi))
  rwa [arr_size] at this
theorem load_arr {P : Program} {w : World} {b : Nat} {t ty e : TypeId} {n : Nat} {f : Nat → Value} (h : w.rowIs b t n f) (hu : P.underlying ty = some (.array n e)) (hi : (P.info? ty).map (·.size) = some n) :
    (loadVar ty ⟨b, 0, none⟩).run P w = .ok (.agg (arr n f)) w :=
  run_loadVar_row w b t ty (arr n f) (0, 0) _ (row_arr h) hu rfl (by rw [arr_size]; exact hi)
theorem arr_one {n : Nat} {k : IntKind} (f : Nat → Int) : (arr n fun i => .int k (f i)).all (·.oneCell') = true := by
  rw [Array.all_eq_true]
  intro i hi
  have h2 : i < n := by rwa [arr_size] at hi
  have h3 := arr_at (f := fun i => Value.int k (f i)) h2
  rw [Array.getElem?_eq_getElem hi] at h3
  injection h3 with h3
  rw [h3]
  rfl
theorem store_arr {P : Program} {w : World} {b : Nat} {t ty : TypeId} {n : Nat} {f : Nat → Value} {k : IntKind} {g : Nat → Int} (h : w.rowIs b t n f) (hi : (P.info? ty).map (·.size) = some n) :
    (storeVar ty ⟨b, 0, none⟩ (.agg (arr n fun i => .int k (g i)))).run P w = .ok () (w.setRow b (arr n fun i => .int k (g i))) :=
  run_storeVar_row w b t ty (arr n f) _ (row_arr h) (by rw [arr_size]; exact hi) (by rw [arr_size, arr_size]) (arr_one g)
theorem row_set {w : World} {b : Nat} {t : TypeId} {n : Nat} {f : Nat → Value} (h : w.rowIs b t n f) (g : Nat → Value) : (w.setRow b (arr n g)).rowIs b t n g := by
  refine ⟨arr n g, ?_, arr_size _ _, fun i hi => arr_at hi⟩
  have := row_arr h
  simp only [World.setRow]
  rw [Array.getElem?_modify, if_pos rfl, this]
  rfl
theorem Old.setRow {a w : World} (h : Old a w) {b : Nat} (hb : a.heap.size ≤ b) (c : Array Value) : Old a (w.setRow b c) :=
  ⟨h.os, h.output, by simpa [World.setRow] using h.size, fun k hk => by
    simp only [World.setRow]
    rw [Array.getElem?_modify, if_neg (by omega)]
    exact h.block k hk⟩
theorem loadCells_arr {P : Program} {w : World} {b : Nat} {t : TypeId} {n : Nat} {f : Nat → Value} (h : w.rowIs b t n f) : (loadCellsFrom ⟨b, 0, none⟩ 0 n #[]).run P w = .ok (arr n f) w := by
  have := run_loadCells_list (P := P) w ⟨b, 0, none⟩ (arr n f).toList (fun j v hv => by
    have hadd : (⟨b, 0, none⟩ : Addr).add j = ⟨b, j, none⟩ := by unfold Addr.add; split <;> simp_all
    rw [hadd, cell_of_row _ _ j (arr n f) t (0, 0) (row_arr h)]
    simpa using hv)
  simpa [loadCells, arr_size] using this
theorem storeCells_arr {P : Program} {w : World} {b : Nat} {t : TypeId} {n : Nat} {f : Nat → Value} {k : IntKind} {g : Nat → Int} (h : w.rowIs b t n f) : (storeCells ⟨b, 0, none⟩ (arr n fun i => .int k (g i)).toList 0).run P w = .ok () (w.setRow b (arr n fun i => .int k (g i))) := by
  have := run_storeCells_from (P := P) b t (arr n fun i => .int k (g i)).toList 0 (arr n f) w (row_arr h) (by simp [arr_size]) (fun v hv => (Array.all_eq_true_iff_forall_mem.1 (arr_one g)) v (by simpa using hv))
  simpa using this
theorem results_cell {P : Program} {fn : Func} {s : Tmp} {t : TypeId} {tmps : Array Value} {w : World} {b : Nat} {v : Value} (h : fn.results = #[.cell s t]) (hp : tmps[s]? = some (.pointer (some ⟨b, 0, none⟩))) (hl : (loadVar t ⟨b, 0, none⟩).run P w = .ok v w) : (results fn tmps).run P w = .ok v w := by
  simp [results, h, hp, asAddr, hl]

theorem info8 : (Try.prog.info? 55).map (·.size) = some 8 := by kernel_rfl
theorem info64 : (Try.prog.info? 76).map (·.size) = some 64 := by kernel_rfl

/-- The eight numbers at first. -/
theorem dfirst_any (w : World) : Calls Try.prog 31 #[] w fun e w' => e = .returned (.agg (arr 8 fun i => .int .u32 (hS i))) ∧ Old w w' := by
  go_enter Try.func31, Try.ntmps31
  go_wp2_with fail
  refine bodyPost_ret (v := .agg (arr 8 fun i => .int .u32 (hS i))) (results_cell rfl rfl (load_arr (World.rowIs_alloc w _ _ (fun i => .int .u32 (hS i)) (fun i hi => ?_)) Try.underlying55 info8)) rfl ⟨rfl, (Old.refl _).alloc _⟩
  match i, hi with
  | 0, _ => rfl
  | 1, _ => rfl
  | 2, _ => rfl
  | 3, _ => rfl
  | 4, _ => rfl
  | 5, _ => rfl
  | 6, _ => rfl
  | 7, _ => rfl

end Go.Proofs.Ytljfjjfckepkdab
