/-
  The statements' small group and awake (layer 4).
-/
import Derived.Test.YtljfjjfckepkdadGgrp
import Derived.Laws.Rows
namespace Go.Proofs.Ytljfjjfckepkdad
open Go.RowKit

def sN : Nat → Int | 0 => 5 | 1 => 11 | 2 => 23 | 3 => 1013 | _ => 2027
def sA : Nat → Int | 0 => 2 | 1 => 2 | 2 => 5 | 3 => 3 | _ => 2
def sL : Nat → Nat | 0 => 1 | 1 => 2 | 2 => 2 | 3 => 3 | _ => 2
def sF : Nat → Nat → Int | 0, _ => 2 | 1, 0 => 2 | 1, _ => 5 | 2, 0 => 2 | 2, _ => 11 | 3, 0 => 2 | 3, 1 => 11 | 3, _ => 23 | _, 0 => 2 | _, _ => 1013
def sP (k : Nat) (i : Nat) : Option Addr := some ⟨k + 1 + i, 0, none⟩

theorem small_right : rightI 2027 1013 4 9 sN sA sF sL 5 = true := by decide +kernel
theorem small_righ : Righ 2027 1013 4 := right_righ (fun i _ => by unfold sA; split <;> decide) small_right

/-- The small group's rows, laid out behind a block. -/
def sW (w : World) (g : Obj) (t t' : TypeId) : World := ((((((w.alloc g).alloc (.cells #[.int .u64 2] t)).alloc (.cells #[.int .u64 2, .int .u64 5] t)).alloc (.cells #[.int .u64 2, .int .u64 11] t)).alloc (.cells #[.int .u64 2, .int .u64 11, .int .u64 23] t)).alloc (.cells #[.int .u64 2, .int .u64 1013] t)).alloc (.cells #[.int .u64 5, .int .u64 2, .slice (some ⟨w.heap.size + 1, 0, none⟩) 1 1, .int .u64 11, .int .u64 2, .slice (some ⟨w.heap.size + 1 + 1, 0, none⟩) 2 2, .int .u64 23, .int .u64 5, .slice (some ⟨w.heap.size + 1 + 1 + 1, 0, none⟩) 2 2, .int .u64 1013, .int .u64 3, .slice (some ⟨w.heap.size + 1 + 1 + 1 + 1, 0, none⟩) 3 3, .int .u64 2027, .int .u64 2, .slice (some ⟨w.heap.size + 1 + 1 + 1 + 1 + 1, 0, none⟩) 2 2] t')
theorem sW_old (w : World) (g : Obj) (t t' : TypeId) : Old (w.alloc g) (sW w g t t') := ((((((Old.refl _).alloc _).alloc _).alloc _).alloc _).alloc _).alloc _
theorem sW_size (w : World) (g : Obj) (t t' : TypeId) : (sW w g t t').heap.size = w.heap.size + 7 := by simp [sW]
theorem sW_top (w : World) (g : Obj) (t t' : TypeId) (i : Nat) : (sW w g t t').cell? ⟨w.heap.size + 1 + 1 + 1 + 1 + 1 + 1, i, none⟩ = (#[.int .u64 5, .int .u64 2, .slice (some ⟨w.heap.size + 1, 0, none⟩) 1 1, .int .u64 11, .int .u64 2, .slice (some ⟨w.heap.size + 1 + 1, 0, none⟩) 2 2, .int .u64 23, .int .u64 5, .slice (some ⟨w.heap.size + 1 + 1 + 1, 0, none⟩) 2 2, .int .u64 1013, .int .u64 3, .slice (some ⟨w.heap.size + 1 + 1 + 1 + 1, 0, none⟩) 3 3, .int .u64 2027, .int .u64 2, .slice (some ⟨w.heap.size + 1 + 1 + 1 + 1 + 1, 0, none⟩) 2 2] : Array Value)[i]? := by
  unfold sW
  rw [World.cell?_alloc_at _ _ _ _ (by simp)]
theorem sW_0 (w : World) (g : Obj) (t t' : TypeId) (i : Nat) : (sW w g t t').cell? ⟨w.heap.size + 1, i, none⟩ = (#[.int .u64 2] : Array Value)[i]? := by
  unfold sW
  rw [World.cell?_alloc_past _ _ _ (by simp <;> omega), World.cell?_alloc_past _ _ _ (by simp <;> omega), World.cell?_alloc_past _ _ _ (by simp <;> omega), World.cell?_alloc_past _ _ _ (by simp <;> omega), World.cell?_alloc_past _ _ _ (by simp <;> omega), World.cell?_alloc_at _ _ _ _ (by simp)]
theorem sW_1 (w : World) (g : Obj) (t t' : TypeId) (i : Nat) : (sW w g t t').cell? ⟨w.heap.size + 1 + 1, i, none⟩ = (#[.int .u64 2, .int .u64 5] : Array Value)[i]? := by
  unfold sW
  rw [World.cell?_alloc_past _ _ _ (by simp <;> omega), World.cell?_alloc_past _ _ _ (by simp <;> omega), World.cell?_alloc_past _ _ _ (by simp <;> omega), World.cell?_alloc_past _ _ _ (by simp <;> omega), World.cell?_alloc_at _ _ _ _ (by simp)]
theorem sW_2 (w : World) (g : Obj) (t t' : TypeId) (i : Nat) : (sW w g t t').cell? ⟨w.heap.size + 1 + 1 + 1, i, none⟩ = (#[.int .u64 2, .int .u64 11] : Array Value)[i]? := by
  unfold sW
  rw [World.cell?_alloc_past _ _ _ (by simp <;> omega), World.cell?_alloc_past _ _ _ (by simp <;> omega), World.cell?_alloc_past _ _ _ (by simp <;> omega), World.cell?_alloc_at _ _ _ _ (by simp)]
theorem sW_3 (w : World) (g : Obj) (t t' : TypeId) (i : Nat) : (sW w g t t').cell? ⟨w.heap.size + 1 + 1 + 1 + 1, i, none⟩ = (#[.int .u64 2, .int .u64 11, .int .u64 23] : Array Value)[i]? := by
  unfold sW
  rw [World.cell?_alloc_past _ _ _ (by simp <;> omega), World.cell?_alloc_past _ _ _ (by simp <;> omega), World.cell?_alloc_at _ _ _ _ (by simp)]
theorem sW_4 (w : World) (g : Obj) (t t' : TypeId) (i : Nat) : (sW w g t t').cell? ⟨w.heap.size + 1 + 1 + 1 + 1 + 1, i, none⟩ = (#[.int .u64 2, .int .u64 1013] : Array Value)[i]? := by
  unfold sW
  rw [World.cell?_alloc_past _ _ _ (by simp <;> omega), World.cell?_alloc_at _ _ _ _ (by simp)]
theorem sW_rows (w : World) (g : Obj) (t t' : TypeId) : RowsIn (sW w g t t') (some ⟨w.heap.size + 1 + 1 + 1 + 1 + 1 + 1, 0, none⟩) 5 sN sA (sP w.heap.size) sL sL sF := by
  refine Or.inr ⟨_, _, rfl, by rw [sW_size]; omega, fun i hi => ?_⟩
  match i, hi with
  | 0, _ =>
    refine ⟨(sW_top ..).trans rfl, (sW_top ..).trans rfl, (sW_top ..).trans rfl, by decide, by decide, by decide, by decide, Nat.le_refl _, by decide, Or.inr ⟨_, _, rfl, by rw [sW_size]; omega, fun j hj => ?_⟩⟩
    match j, hj with
    | 0, _ => exact ⟨(sW_0 ..).trans rfl, by decide, by decide⟩
  | 1, _ =>
    refine ⟨(sW_top ..).trans rfl, (sW_top ..).trans rfl, (sW_top ..).trans rfl, by decide, by decide, by decide, by decide, Nat.le_refl _, by decide, Or.inr ⟨_, _, rfl, by rw [sW_size]; omega, fun j hj => ?_⟩⟩
    match j, hj with
    | 0, _ => exact ⟨(sW_1 ..).trans rfl, by decide, by decide⟩
    | 1, _ => exact ⟨(sW_1 ..).trans rfl, by decide, by decide⟩
  | 2, _ =>
    refine ⟨(sW_top ..).trans rfl, (sW_top ..).trans rfl, (sW_top ..).trans rfl, by decide, by decide, by decide, by decide, Nat.le_refl _, by decide, Or.inr ⟨_, _, rfl, by rw [sW_size]; omega, fun j hj => ?_⟩⟩
    match j, hj with
    | 0, _ => exact ⟨(sW_2 ..).trans rfl, by decide, by decide⟩
    | 1, _ => exact ⟨(sW_2 ..).trans rfl, by decide, by decide⟩
  | 3, _ =>
    refine ⟨(sW_top ..).trans rfl, (sW_top ..).trans rfl, (sW_top ..).trans rfl, by decide, by decide, by decide, by decide, Nat.le_refl _, by decide, Or.inr ⟨_, _, rfl, by rw [sW_size]; omega, fun j hj => ?_⟩⟩
    match j, hj with
    | 0, _ => exact ⟨(sW_3 ..).trans rfl, by decide, by decide⟩
    | 1, _ => exact ⟨(sW_3 ..).trans rfl, by decide, by decide⟩
    | 2, _ => exact ⟨(sW_3 ..).trans rfl, by decide, by decide⟩
  | 4, _ =>
    refine ⟨(sW_top ..).trans rfl, (sW_top ..).trans rfl, (sW_top ..).trans rfl, by decide, by decide, by decide, by decide, Nat.le_refl _, by decide, Or.inr ⟨_, _, rfl, by rw [sW_size]; omega, fun j hj => ?_⟩⟩
    match j, hj with
    | 0, _ => exact ⟨(sW_4 ..).trans rfl, by decide, by decide⟩
    | 1, _ => exact ⟨(sW_4 ..).trans rfl, by decide, by decide⟩

theorem result_cell {P : Program} {fn : Func} {s : Tmp} {t : TypeId} {tmps : Array Value} {w : World} {b : Nat} {v : Value} (h : fn.results = #[.cell s t]) (hp : tmps[s]? = some (.pointer (some ⟨b, 0, none⟩))) (hl : (loadVar t ⟨b, 0, none⟩).run P w = .ok v w) : (results fn tmps).run P w = .ok v w := by
  simp [results, h, hp, asAddr, hl]

theorem small4_any (w : World) : Calls Try.prog 9 #[] w fun e w' => ∃ a FA, e = .returned (gv 2027 1013 4 9 a 5 5) ∧ RowsIn w' a 5 sN sA FA sL sL sF ∧ Old w w' := by
  have hi : (Try.prog.info? 25).map (·.size) = some 5 := by kernel_rfl
  go_enter Try.func9, Try.ntmps9
  go_wp2_with fail
  refine bodyPost_ret (v := gv 2027 1013 4 9 (some ⟨w.heap.size + 1 + 1 + 1 + 1 + 1 + 1, 0, none⟩) 5 5) (result_cell (b := w.heap.size) rfl rfl (run_loadVar_row _ _ 25 _ _ (0, 0) _ ?_ Try.underlying25 rfl hi)) rfl ⟨_, _, rfl, sW_rows w _ _ _, ((Old.refl w).alloc _).trans (sW_old w _ _ _)⟩
  refine ((sW_old w _ _ _).block _ (by simp)).trans ?_
  unfold World.alloc
  simp

theorem four_small : Four 2027 1013 4 9 := ⟨by decide, by decide, by decide, by decide, by decide, by decide, by decide, by decide⟩
theorem small_lay : layI 2027 1013 5 = 2021 := by decide +kernel
theorem small_in : inI 2027 1013 2021 = true := by decide +kernel
theorem small_back : backI 2027 1013 2021 = 5 := by decide +kernel
theorem small_exp : expI 2027 1013 4 1013 = 1 := by decide +kernel
/-- Two numbers. -/
def two (x y : Int) : Nat → Int | 0 => x | _ => y
theorem small_prod : prodI 2027 (two 4 9) 2 = 36 := by decide +kernel

theorem beh_facs {w1 : World} {P Q G H : Int} {a : Option Addr} {n cap : Nat} {wx : World} (h : Beh w1 P Q G H a n cap wx) (x y : Int) (t : TypeId) (x0 : 0 ≤ x) (x1 : x ≤ 18446744073709551615) (y0 : 0 ≤ y) (y1 : y ≤ 18446744073709551615) :
    Beh w1 P Q G H a n cap (wx.alloc (.cells #[.int .u64 x, .int .u64 y] t)) ∧ FacsIn (wx.alloc (.cells #[.int .u64 x, .int .u64 y] t)) (some ⟨wx.heap.size, 0, none⟩) 2 (two x y) := by
  refine ⟨h.then ((Old.refl _).alloc _), Or.inr ⟨_, _, rfl, by simp, fun j hj => ?_⟩⟩
  match j, hj with
  | 0, _ => exact ⟨(World.cell?_alloc_mark wx _ t (0, 0) 0).trans rfl, x0, x1⟩
  | 1, _ => exact ⟨(World.cell?_alloc_mark wx _ t (0, 0) 1).trans rfl, y0, y1⟩

theorem awk_calls {w1 : World} {a : Option Addr} {FA : Nat → Option Addr} (hrow : RowsIn w1 a 5 sN sA FA sL sL sF) :
    Hid (∀ wx, Beh w1 2027 1013 4 9 a 5 5 wx → Calls Try.prog 10 #[gv 2027 1013 4 9 a 5 5, .int .u64 5] wx fun e w' => e = .returned (.tuple #[.int .u64 2021, .bool true]) ∧ Beh w1 2027 1013 4 9 a 5 5 w') ∧
    Hid (∀ wx, Beh w1 2027 1013 4 9 a 5 5 wx → Calls Try.prog 11 #[gv 2027 1013 4 9 a 5 5, .int .u64 2021] wx fun e w' => e = .returned (.tuple #[.int .u64 5, .bool true]) ∧ Beh w1 2027 1013 4 9 a 5 5 w') ∧
    Hid (∀ wx, Beh w1 2027 1013 4 9 a 5 5 wx → Calls Try.prog 6 #[gv 2027 1013 4 9 a 5 5] wx fun e w' => e = .returned (.bool true) ∧ Beh w1 2027 1013 4 9 a 5 5 w') ∧
    Hid (∀ wx, Beh w1 2027 1013 4 9 a 5 5 wx → Calls Try.prog 8 #[gv 2027 1013 4 9 a 5 5, .int .u64 4, .int .u64 1013] wx fun e w' => e = .returned (.int .u64 1) ∧ Beh w1 2027 1013 4 9 a 5 5 w') ∧
    Hid (∀ wx t, Beh w1 2027 1013 4 9 a 5 5 wx → Calls Try.prog 12 #[gv 2027 1013 4 9 a 5 5, .slice (some ⟨wx.heap.size, 0, none⟩) 2 2] (wx.alloc (.cells #[.int .u64 4, .int .u64 9] t)) fun e w' => e = .returned (.int .u64 36) ∧ Beh w1 2027 1013 4 9 a 5 5 w') ∧
    Hid (∀ wx, Beh w1 2027 1013 4 9 a 5 5 wx → wx.cell? ⟨w1.heap.size, 0, none⟩ = some (.int .u64 2027) ∧ wx.cell? ⟨w1.heap.size, 1, none⟩ = some (.int .u64 1013) ∧ wx.cell? ⟨w1.heap.size, 2, none⟩ = some (.int .u64 4) ∧ wx.cell? ⟨w1.heap.size, 3, none⟩ = some (.int .u64 9) ∧ wx.cell? ⟨w1.heap.size, 4, none⟩ = some (.slice a 5 5)) ∧
    Hid (∀ t, Beh w1 2027 1013 4 9 a 5 5 (w1.alloc (go 2027 1013 4 9 a 5 5 t))) ∧ Hid (∀ wx, Beh w1 2027 1013 4 9 a 5 5 wx → Old w1 wx) := by
  refine ⟨fun wx hb => ?_, fun wx hb => ?_, fun wx hb => ?_, fun wx hb => ?_, fun wx t hb => ?_, fun wx hb => ⟨hb.cell rfl, hb.cell rfl, hb.cell rfl, hb.cell rfl, hb.cell rfl⟩, fun t => Beh.new .., fun wx hb => hb.old⟩
  · refine (glay_any 2027 1013 4 9 5 a 5 5 wx four_small small_righ (by decide) (by decide)).mono fun e w' ⟨h, k⟩ => ⟨?_, hb.then k⟩
    rw [h, small_lay]
    rfl
  · refine (gback_any 2027 1013 4 9 2021 a 5 5 wx four_small small_righ (by decide) (by decide)).mono fun e w' ⟨h, k⟩ => ⟨?_, hb.then k⟩
    rw [h, small_back, small_in]
  · refine (gright_any 2027 1013 4 9 a 5 5 sN sA FA sL sL sF wx four_small (by decide) (by decide) (hrow.old hb.old)).mono fun e w' ⟨h, k⟩ => ⟨?_, hb.then k⟩
    rw [h, small_right]
  · refine (gexp_any 2027 1013 4 9 4 1013 a 5 5 wx four_small small_righ (by decide) (by decide) (by decide) (by decide)).mono fun e w' ⟨h, k⟩ => ⟨?_, hb.then k⟩
    rw [h, small_exp]
  · obtain ⟨hb2, hf⟩ := beh_facs hb 4 9 t (by decide) (by decide) (by decide) (by decide)
    refine (gprod_any 2027 1013 4 9 a 5 5 _ 2 2 _ _ four_small small_righ (by decide) (by decide) hf).mono fun e w' ⟨h, k⟩ => ⟨?_, hb2.then k⟩
    rw [h, small_prod]

set_option maxHeartbeats 1000000 in
theorem awake4_any (w : World) : Calls Try.prog 4 #[] w fun e w' => e = .returned (.bool true) ∧ Old w w' := by
  go_enter Try.func4, Try.ntmps4
  go_wp2_with (first
    | (go_at_call 9; refine (small4_any _).mono ?_; rintro e w1 ⟨a, FA, rfl, hrow, ho1⟩; obtain ⟨HL, HK, HR, HE, HP, HF, HN, HO⟩ := awk_calls hrow; have HW : Hid (Old w w1) := ho1; clear hrow ho1)
    | (go_at_call 10; refine (HL.out _ (by first | exact HN.out _ | assumption)).mono ?_; rintro e w2 ⟨rfl, hb⟩; obtain ⟨d0, d1, d2, d3, d4⟩ := HF.out _ hb)
    | (go_at_call 11; refine (HK.out _ (by first | exact HN.out _ | assumption)).mono ?_; rintro e w2 ⟨rfl, hb⟩; obtain ⟨d0, d1, d2, d3, d4⟩ := HF.out _ hb)
    | (go_at_call 6; refine (HR.out _ (by first | exact HN.out _ | assumption)).mono ?_; rintro e w2 ⟨rfl, hb⟩; obtain ⟨d0, d1, d2, d3, d4⟩ := HF.out _ hb)
    | (go_at_call 8; refine (HE.out _ (by first | exact HN.out _ | assumption)).mono ?_; rintro e w2 ⟨rfl, hb⟩; obtain ⟨d0, d1, d2, d3, d4⟩ := HF.out _ hb)
    | (go_at_call 12; refine (HP.out _ _ (by first | exact HN.out _ | assumption)).mono ?_; rintro e w2 ⟨rfl, hb⟩))
  go_ret
  exact ⟨rfl, HW.out.trans (HO.out _ (by assumption))⟩

end Go.Proofs.Ytljfjjfckepkdad
