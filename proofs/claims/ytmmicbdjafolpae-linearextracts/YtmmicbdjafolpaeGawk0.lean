/-
  The statements' small group and awake (layer 4).
-/
import Derived.Test.YtmmicbdjafolpaeGgrp
import Derived.Laws.Rows
namespace Go.Proofs.Ytmmicbdjafolpae
open Go.RowKit

def sN : Nat → Int | 0 => 5 | 1 => 11 | 2 => 23 | 3 => 1013 | _ => 2027
def sA : Nat → Int | 0 => 2 | 1 => 2 | 2 => 5 | 3 => 3 | _ => 2
def sL : Nat → Nat | 0 => 1 | 1 => 2 | 2 => 2 | 3 => 3 | _ => 2
def sF : Nat → Nat → Int | 0, _ => 2 | 1, 0 => 2 | 1, _ => 5 | 2, 0 => 2 | 2, _ => 11 | 3, 0 => 2 | 3, 1 => 11 | 3, _ => 23 | _, 0 => 2 | _, _ => 1013
def sP (k : Nat) (i : Nat) : Option Addr := some ⟨k + 1 + i, 0, none⟩

theorem small_right : rightI 2027 1013 4 9 sN sA sF sL 5 = true := by decide +kernel
theorem small_righ : Righ 2027 1013 4 := right_righ (fun i _ => by unfold sA; split <;> decide) small_right

/-- The small group's rows, laid out behind a block. -/
def sW (w : World) (g : Obj) (t t' : TypeId) : World := ((((((w.alloc g).alloc (.cells #[.int .u64 2] t)).alloc (.cells #[.int .u64 2, .int .u64 5] t)).alloc (.cells #[.int .u64 2, .int .u64 11] t)).alloc (.cells #[.int .u64 2, .int .u64 11, .int .u64 23] t)).alloc (.cells #[.int .u64 2, .int .u64 1013] t)).alloc (.cells #[.int .u64 5, .int .u64 2, .slice (some ⟨w.heap.size + 1, 0, none⟩) 1 1, .int .u64 11, .int .u64 2, .slice (some ⟨w.heap.size + 1 + 1, 0, none⟩) 2 2, .int .u64 23, .int .u64 5, .slice (some ⟨w.heap.size + 1 + 1 + 1, 0, none⟩) 2 2, .int .u64 1013, .int .u64 3, .slice (some ⟨w.heap.size + 1 + 1 + 1 + 1, 0, none⟩) 3 3, .int .u64 2027, .int .u64 2, .slice (some ⟨w.heap.size + 1 + 1 + 1 + 1 + 1, 0, none⟩) 2 2] t')
theorem sW_old (w : World) (g : Obj) (t t' : TypeId) : Old (w.alloc g) (sW w g t t') := ((((((Old.refl _).alloc _).alloc _).alloc _).alloc _).alloc _).alloc _
theorem sW_size (w : World) (g : Obj) (t t' : TypeId) : (sW w g t t').heap.size = w.heap.size + 7 := by simp [sW]
theorem sW_top (w : World) (g : Obj) (t t' : TypeId) (i : Nat) : (sW w g t t').cell? ⟨w.heap.size + 1 + 1 + 1 + 1 + 1 + 1, i, none⟩ = (#[.int .u64 5, .int .u64 2, .slice (some ⟨w.heap.size + 1, 0, none⟩) 1 1, .int .u64 11, .int .u64 2, .slice (some ⟨w.heap.size + 1 + 1, 0, none⟩) 2 2, .int .u64 23, .int .u64 5, .slice (some ⟨w.heap.size + 1 + 1 + 1, 0, none⟩) 2 2, .int .u64 1013, .int .u64 3, .slice (some ⟨w.heap.size + 1 + 1 + 1 + 1, 0, none⟩) 3 3, .int .u64 2027, .int .u64 2, .slice (some ⟨w.heap.size + 1 + 1 + 1 + 1 + 1, 0, none⟩) 2 2] : Array Value)[i]? := by
  unfold sW
  rw [World.cell?_alloc_at _ _ _ _ (by simp)]
theorem sW_0 (w : World) (g : Obj) (t t' : TypeId) (i : Nat) : (sW w g t t').cell? ⟨w.heap.size + 1, i, none⟩ = (#[.int .u64 2] : Array Value)[i]? := by
  unfold sW
  rw [World.cell?_alloc_past _ _ _ (by simp <;> omega), World.cell?_alloc_past _ _ _ (by simp <;> omega), World.cell?_alloc_past _ _ _ (by simp <;> omega), World.cell?_alloc_past _ _ _ (by simp <;> omega), World.cell?_alloc_past _ _ _ (by simp <;> omega), World.cell?_alloc_at _ _ _ _ (by simp)]
theorem sW_1 (w : World) (g : Obj) (t t' : TypeId) (i : Nat) : (sW w g t t').cell? ⟨w.heap.size + 1 + 1, i, none⟩ = (#[.int .u64 2, .int .u64 5] : Array Value)[i]? := by
  unfold sW
  rw [World.cell?_alloc_past _ _ _ (by simp <;> omega), World.cell?_alloc_past _ _ _ (by simp <;> omega), World.cell?_alloc_past _ _ _ (by simp <;> omega), World.cell?_alloc_past _ _ _ (by simp <;> omega), World.cell?_alloc_at _ _ _ _ (by simp)]
theorem sW_2 (w : World) (g : Obj) (t t' : TypeId) (i : Nat) : (sW w g t t').cell? ⟨w.heap.size + 1 + 1 + 1, i, none⟩ = (#[.int .u64 2, .int .u64 11] : Array Value)[i]? := by
  unfold sW
  rw [World.cell?_alloc_past _ _ _ (by simp <;> omega), World.cell?_alloc_past _ _ _ (by simp <;> omega), World.cell?_alloc_past _ _ _ (by simp <;> omega), World.cell?_alloc_at _ _ _ _ (by simp)]
theorem sW_3 (w : World) (g : Obj) (t t' : TypeId) (i : Nat) : (sW w g t t').cell? ⟨w.heap.size + 1 + 1 + 1 + 1, i, none⟩ = (#[.int .u64 2, .int .u64 11, .int .u64 23] : Array Value)[i]? := by
  unfold sW
  rw [World.cell?_alloc_past _ _ _ (by simp <;> omega), World.cell?_alloc_past _ _ _ (by simp <;> omega), World.cell?_alloc_at _ _ _ _ (by simp)]
theorem sW_4 (w : World) (g : Obj) (t t' : TypeId) (i : Nat) : (sW w g t t').cell? ⟨w.heap.size + 1 + 1 + 1 + 1 + 1, i, none⟩ = (#[.int .u64 2, .int .u64 1013] : Array Value)[i]? := by
  unfold sW
  rw [World.cell?_alloc_past _ _ _ (by simp <;> omega), World.cell?_alloc_at _ _ _ _ (by simp)]
theorem sW_rows (w : World) (g : Obj) (t t' : TypeId) : RowsIn (sW w g t t') (some ⟨w.heap.size + 1 + 1 + 1 + 1 + 1 + 1, 0, none⟩) 5 sN sA (sP w.heap.size) sL sL sF := by
  refine Or.inr ⟨_, _, rfl, by rw [sW_size]; omega, fun i hi => ?_⟩
  match i, hi with
  | 0, _ =>
    refine ⟨(sW_top ..).trans rfl, (sW_top ..).trans rfl, (sW_top ..).trans rfl, by decide, by decide, by decide, by decide, Nat.le_refl _, by decide, Or.inr ⟨_, _, rfl, by rw [sW_size]; omega, fun j hj => ?_⟩⟩
    match j, hj with
    | 0, _ => exact ⟨(sW_0 ..).trans rfl, by decide, by decide⟩
  | 1, _ =>
    refine ⟨(sW_top ..).trans rfl, (sW_top ..).trans rfl, (sW_top ..).trans rfl, by decide, by decide, by decide, by decide, Nat.le_refl _, by decide, Or.inr ⟨_, _, rfl, by rw [sW_size]; omega, fun j hj => ?_⟩⟩
    match j, hj with
    | 0, _ => exact ⟨(sW_1 ..).trans rfl, by decide, by decide⟩
    | 1, _ => exact ⟨(sW_1 ..).trans rfl, by decide, by decide⟩
  | 2, _ =>
    refine ⟨(sW_top ..).trans rfl, (sW_top ..).trans rfl, (sW_top ..).trans rfl, by decide, by decide, by decide, by decide, Nat.le_refl _, by decide, Or.inr ⟨_, _, rfl, by rw [sW_size]; omega, fun j hj => ?_⟩⟩
    match j, hj with
    | 0, _ => exact ⟨(sW_2 ..).trans rfl, by decide, by decide⟩
    | 1, _ => exact ⟨(sW_2 ..).trans rfl, by decide, by decide⟩
  | 3, _ =>
    refine ⟨(sW_top ..).trans rfl, (sW_top ..).trans rfl, (sW_top ..).trans rfl, by decide, by decide, by decide, by decide, Nat.le_refl _, by decide, Or.inr ⟨_, _, rfl, by rw [sW_size]; omega, fun j hj => ?_⟩⟩
    match j, hj with
    | 0, _ => exact ⟨(sW_3 ..).trans rfl, by decide, by decide⟩
    | 1, _ => exact ⟨(sW_3 ..).trans rfl, by decide, by decide⟩
    | 2, _ => exact ⟨(sW_3 ..).trans rfl, by decide, by decide⟩
  | 4, _ =>
    refine ⟨(sW_top ..).trans rfl, (sW_top ..).trans rfl, (sW_top ..).trans rfl, by decide, by decide, by decide, by decide, Nat.le_refl _, by decide, Or.inr ⟨_, _, rfl, by rw [sW_size]; omega, fun j hj => ?_⟩⟩
    match j, hj with
    | 0, _ => exact ⟨(sW_4 ..).trans rfl, by decide, by decide⟩
    | 1, _ => exact ⟨(sW_4 ..).trans rfl, by decide, by decide⟩

theorem result_cell {P : Program} {fn : Func} {s : Tmp} {t : TypeId} {tmps : Array Value} {w : World} {b : Nat} {v : Value} (h : fn.results = #[.cell s t]) (hp : tmps[s]? = some (.pointer (some ⟨b, 0, none⟩))) (hl : (loadVar t ⟨b, 0, none⟩).run P w = .ok v w) : (results fn tmps).run P w = .ok v w := by
  simp [results, h, hp, asAddr, hl]

theorem small4_any (w : World) : Calls Try.prog 36 #[] w fun e w' => ∃ a FA, e = .returned (gv 2027 1013 4 9 a 5 5) ∧ RowsIn w' a 5 sN sA FA sL sL sF ∧ Old w w' := by
  have hi : (Try.prog.info? 25).map (·.size) = some 5 := by kernel_rfl
  go_enter Try.func36, Try.ntmps36
  go_wp2_with fail
  refine bodyPost_ret (v := gv 2027 1013 4 9 (some ⟨w.heap.size + 1 + 1 + 1 + 1 + 1 + 1, 0, none⟩) 5 5) (result_cell (b := w.heap.size) rfl rfl (run_loadVar_row _ _ 25 _ _ (0, 0) _ ?_ Try.underlying25 rfl hi)) rfl ⟨_, _, rfl, sW_rows w _ _ _, ((Old.refl w).alloc _).trans (sW_old w _ _ _)⟩
  refine ((sW_old w _ _ _).block _ (by simp)).trans ?_
  unfold World.alloc
  simp

end Go.Proofs.Ytmmicbdjafolpae
