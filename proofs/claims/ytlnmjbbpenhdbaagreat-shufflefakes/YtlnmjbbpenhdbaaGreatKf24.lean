/-
  ShuffleFakes' walk (layer 8).
  A list of rows that came in, opened: what its reading says of memory.
  A group that came in, opened: what its reading says of memory.
  Pairs, threes and arrays that came in, opened: what their reading says (layer 5).
  Labelled lists, boxes, threes and what is made of draws, opened: what their reading says (layer 7).
  Batches, orders, draws and jobs that came in, opened: what their reading says (layer 8).
-/
import Derived.Test.YtlnmjbbpenhdbaaGreatKf23
import Derived.Test.YtlnmjbbpenhdbaaGreatKf01
import Derived.Deep.Slices
import Derived.Deep.Strs
import Derived.OpenShut
import Derived.Test.YtlnmjbbpenhdbaaGreatKf05
import Derived.SizedLaws
import Derived.Test.YtlnmjbbpenhdbaaGreatKf06
import Derived.Test.YtlnmjbbpenhdbaaGreatKf08
namespace Go.Proofs.YtlnmjbbpenhdbaaGreat
open Go.RowKit
set_option linter.unusedSimpArgs false
set_option linter.unusedVariables false

/-- A list, and that there is one. -/
def gvE {T : TypeId} (ht : T ≠ 22) (base n : Nat) (F : Nat → Int) : Ent2 (OldT T) := .u (fun v w => ∃ b c, v = .tuple #[.slice b n c, .bool true] ∧ Nums w base (.slice b n c) n F) fun _ _ _ ⟨b, c, e, h⟩ ho => ⟨b, c, e, h.oldT ht ho⟩
set_option maxRecDepth 100000 in
set_option maxHeartbeats 16000000 in
theorem law8_fakes (X Y Z E : Int) (P Q G H : Int) (a : Option Addr) (m cap : Nat) (N A : Nat → Int) (FA : Nat → Option Addr) (RL RC : Nat → Nat) (RF : Nat → Nat → Int) (label : List Int) (y : Int) (bi : Option Addr) (l ci : Nat) (C : Nat → Nat → Int) (bo : Option Addr) (no co : Nat) (O : Nat → Int) (bρ : Option Addr) (nρ cρ : Nat) (Rh : Nat → Nat → Int) (bR : Option Addr) (nR cR : Nat) (R : Nat → Int) (bS : Option Addr) (nS cS : Nat) (S : Nat → Int) (bT : Option Addr) (nT cT : Nat) (T : Nat → Int) (bD : Option Addr) (nD cD : Nat) (D : Nat → Int) (w : World) (hXu : U64 X) (hYu : U64 Y) (hZu : U64 Z) (hEu : U64 E) (h4 : Four P Q G H) (_hcap : m ≤ cap) (hin : RowsIn w a m N A FA RL RC RF) (hlb : Bts label) (hy : U64 y) (hC : BoxsIn w bi l C) (hO : IntsIn w bo no O) (hρ : RhoIn w bρ nρ Rh) (hR : FacsIn w bR nR R) (hS : FacsIn w bS nS S) (hcT : nT ≤ cT ∧ cT ≤ 9223372036854775807) (hT : FacsIn w bT nT T) (hcD : nD ≤ cD ∧ cD ≤ 9223372036854775807) (hD : FacsIn w bD nD D) :
    Calls Tryz.prog 11 #[gv P Q G H a m cap, jv label y bi l ci bo no co bρ nρ cρ bR nR cR bS nS cS bT nT cT bD nD cD, .agg #[.int .u64 X, .int .u64 Y, .int .u64 Z, .int .u64 E]] w (Ret w (.bool true)) := by
  have HA : Hid (∀ wx, Calls Tryz.prog 12 #[] wx (Ret wx (.bool true))) := fun wx => awake8_any wx
  have HU : Hid (∀ wx, Old w wx → Calls Tryz.prog 13 #[gv P Q G H a m cap] wx fun e w' => e = .returned (.bool (fewB RL m && rightI P Q G H N A RF RL m)) ∧ Old wx w') := fun wx ho => group5_any P Q G H a m cap N A FA RL RC RF wx h4 (hin.old ho)
  have HL : Hid (∀ wx, Calls Tryz.prog 14 #[jv label y bi l ci bo no co bρ nρ cρ bR nR cR bS nS cS bT nT cT bD nD cD] wx (Ret wx (.bool (fewJ label.length l no nρ nR nS nT nD)))) := fun wx => few8_any label y bi l ci bo no co bρ nρ cρ bR nR cR bS nS cS bT nT cT bD nD cD wx
  have ha := hin.a0
  have HZ := lain3 w (gc P Q G H a m cap) (jvc label y bi l ci bo no co bρ nρ cρ bR nR cR bS nS cS bT nT cT bD nD cD) #[.int .u64 X, .int .u64 Y, .int .u64 Z, .int .u64 E] 25 33 78
  have HG0 := fun w' ho => (HZ.then (W' := w') ho).row 0 (by simp)
  have HJ0 := fun w' ho => (HZ.then (W' := w') ho).row 1 (by simp)
  have HX0 := fun w' ho => (HZ.then (W' := w') ho).row 2 (by simp)
  have HW0 : Hid (Old w (((w.alloc (.cells (gc P Q G H a m cap) 25)).alloc (.cells (jvc label y bi l ci bo no co bρ nρ cρ bR nR cR bS nS cS bT nT cT bD nD cD) 33)).alloc (.cells #[.int .u64 X, .int .u64 Y, .int .u64 Z, .int .u64 E] 78))) := HZ.old
  clear HZ hin
  go_enter Tryz.func11, Tryz.ntmps11
  go_upto_region 1 with fail
  generalize (((w.alloc (.cells (gc P Q G H a m cap) 25)).alloc (.cells (jvc label y bi l ci bo no co bρ nρ cρ bR nR cR bS nS cS bT nT cT bD nD cD) 33)).alloc (.cells #[.int .u64 X, .int .u64 Y, .int .u64 Z, .int .u64 E] 78)) = W at *
  have HG : Hid (∀ wx, Old W wx → wx.heap[w.heap.size]? = some (.cells (gc P Q G H a m cap) 25 (0, 0))) := HG0
  have HJ : Hid (∀ wx, Old W wx → wx.heap[w.heap.size + 1]? = some (.cells (jvc label y bi l ci bo no co bρ nρ cρ bR nR cR bS nS cS bT nT cT bD nD cD) 33 (0, 0))) := HJ0
  have HX : Hid (∀ wx, Old W wx → wx.heap[w.heap.size + 1 + 1]? = some (.cells #[.int .u64 X, .int .u64 Y, .int .u64 Z, .int .u64 E] 78 (0, 0))) := HX0
  clear HG0 HJ0 HX0
  obtain ⟨gb, hgb⟩ : ∃ gb, gb = w.heap.size := ⟨_, rfl⟩
  rw [← hgb] at HG HJ HX
  rw [← hgb]
  clear hgb
  have HGc : Hid (∀ wx, Old W wx → wx.cell? ⟨gb, 0, none⟩ = some (.int .u64 P) ∧ wx.cell? ⟨gb, 1, none⟩ = some (.int .u64 Q) ∧ wx.cell? ⟨gb, 2, none⟩ = some (.int .u64 G) ∧ wx.cell? ⟨gb, 3, none⟩ = some (.int .u64 H) ∧ wx.cell? ⟨gb, 4, none⟩ = some (.slice a m cap)) := fun wx ho => ⟨cell_of_row _ _ 0 _ _ (0, 0) (HG.out _ ho), cell_of_row _ _ 1 _ _ (0, 0) (HG.out _ ho), cell_of_row _ _ 2 _ _ (0, 0) (HG.out _ ho), cell_of_row _ _ 3 _ _ (0, 0) (HG.out _ ho), cell_of_row _ _ 4 _ _ (0, 0) (HG.out _ ho)⟩
  have HJc : Hid (∀ wx, Old W wx → wx.cell? ⟨gb + 1, 0, none⟩ = some (.string (strOfNums label)) ∧ wx.cell? ⟨gb + 1, 1, none⟩ = some (.int .u64 y) ∧ wx.cell? ⟨gb + 1, 2, none⟩ = some (.slice bi l ci) ∧ wx.cell? ⟨gb + 1, 3, none⟩ = some (.slice bo no co) ∧ wx.cell? ⟨gb + 1, 4, none⟩ = some (.slice bρ nρ cρ) ∧ wx.cell? ⟨gb + 1, 5, none⟩ = some (.slice bR nR cR) ∧ wx.cell? ⟨gb + 1, 6, none⟩ = some (.slice bS nS cS) ∧ wx.cell? ⟨gb + 1, 7, none⟩ = some (.slice bT nT cT) ∧ wx.cell? ⟨gb + 1, 8, none⟩ = some (.slice bD nD cD)) := fun wx ho => ⟨cell_of_row _ _ 0 _ _ (0, 0) (HJ.out _ ho), cell_of_row _ _ 1 _ _ (0, 0) (HJ.out _ ho), cell_of_row _ _ 2 _ _ (0, 0) (HJ.out _ ho), cell_of_row _ _ 3 _ _ (0, 0) (HJ.out _ ho), cell_of_row _ _ 4 _ _ (0, 0) (HJ.out _ ho), cell_of_row _ _ 5 _ _ (0, 0) (HJ.out _ ho), cell_of_row _ _ 6 _ _ (0, 0) (HJ.out _ ho), cell_of_row _ _ 7 _ _ (0, 0) (HJ.out _ ho), cell_of_row _ _ 8 _ _ (0, 0) (HJ.out _ ho)⟩
  have HXc : Hid (∀ wx, Old W wx → wx.cell? ⟨gb + 1 + 1, 0, none⟩ = some (.int .u64 X) ∧ wx.cell? ⟨gb + 1 + 1, 1, none⟩ = some (.int .u64 Y) ∧ wx.cell? ⟨gb + 1 + 1, 2, none⟩ = some (.int .u64 Z) ∧ wx.cell? ⟨gb + 1 + 1, 3, none⟩ = some (.int .u64 E)) := fun wx ho => ⟨cell_of_row _ _ 0 _ _ (0, 0) (HX.out _ ho), cell_of_row _ _ 1 _ _ (0, 0) (HX.out _ ho), cell_of_row _ _ 2 _ _ (0, 0) (HX.out _ ho), cell_of_row _ _ 3 _ _ (0, 0) (HX.out _ ho)⟩
  go_upto_region 3 with (go_at_call 12; refine (HA.out _).mono ?_; rintro e w1 ⟨rfl, h1⟩)
  have HO1 : Hid (Old W w1) := h1
  clear h1 HA
  obtain ⟨g0, g1, g2, g3, g4⟩ := HGc.out _ HO1.out
  cases hg : (fewB RL m && rightI P Q G H N A RF RL m)
  · rw [hg] at HU
    clear hg ha h4 hC hO hρ hR hS hT hD
    go_wp2_with (go_at_call 13; refine (HU.out _ (HW0.out.trans HO1.out)).mono ?_; rintro e w3 ⟨rfl, o3⟩)
    go_ret
    exact ⟨rfl, (HW0.out.trans HO1.out).trans o3⟩
  have hg' := (Bool.and_eq_true_iff.1 hg).2
  have hr := right_righ ha hg'
  have hh := right_h hg'
  rw [hg] at HU
  clear hg hg' ha
  cases hf : fewJ label.length l no nρ nR nS nT nD
  · rw [hf] at HL
    clear hf h4 hC hO hρ hR hS hT hD hr
    go_wp2_with (first
      | (go_at_call 13; refine (HU.out _ (HW0.out.trans HO1.out)).mono ?_; rintro e w3 ⟨rfl, o3⟩; obtain ⟨j0, j1, j2, j3, j4, j5, j6, j7, j8⟩ := HJc.out _ (HO1.out.trans o3))
      | (go_at_call 14; refine (HL.out _).mono ?_; rintro e w4 ⟨rfl, o4⟩))
    go_ret
    exact ⟨rfl, ((HW0.out.trans HO1.out).trans o3).trans o4⟩
  rw [hf] at HL
  obtain ⟨⟨hll, ml, mo⟩, mρ, mR, mS, mT, mD⟩ := fewJ_iff.1 hf
  clear hf
  have HMx0 := fun wx (ho : Old w wx) => smix_any P Q G H a m cap y bi l ci C bo no co O bρ nρ cρ Rh wx h4 hr hy (by omega) (by omega) (by omega) (hC.old ho) (hO.old ho) (hρ.old ho)
  cases hm : mixB P Q y l C no O nρ
  · rw [hm] at HMx0
    have HMx : Hid (∀ wx, Old w wx → Calls Tryz.prog 15 #[gv P Q G H a m cap, .int .u64 y, .slice bi l ci, .slice bo no co, .slice bρ nρ cρ] wx (GivB wx false l (mixC P Q G y C O Rh))) := HMx0
    clear HMx0 hm h4 hC hO hρ hR hS hT hD hr
    go_upto_region 5 with (first
      | (go_at_call 13; refine (HU.out _ (HW0.out.trans HO1.out)).mono ?_; rintro e w3 ⟨rfl, o3⟩; obtain ⟨j0, j1, j2, j3, j4, j5, j6, j7, j8⟩ := HJc.out _ (HO1.out.trans o3))
      | (go_at_call 14; refine (HL.out _).mono ?_; rintro e w4 ⟨rfl, o4⟩))
    have HO4 : Hid (Old W w4) := (HO1.out.trans o3).trans o4
    clear o3 o4 HU HL HO1 g0 g1 g2 g3 g4 j0 j1 j2 j3 j4 j5 j6 j7 j8
    obtain ⟨g0, g1, g2, g3, g4⟩ := HGc.out _ HO4.out
    obtain ⟨j0, j1, j2, j3, j4, j5, j6, j7, j8⟩ := HJc.out _ HO4.out
    have HO5 : Hid (Old W (w4.alloc (.cells (dvc bρ nρ cρ bR nR cR bS nS cS bT nT cT bD nD cD) 31))) := HO4.out.alloc _
    have HR5 : Hid ((w4.alloc (.cells (dvc bρ nρ cρ bR nR cR bS nS cS bT nT cT bD nD cD) 31)).heap[w4.heap.size]? = some (.cells (dvc bρ nρ cρ bR nR cR bS nS cS bT nT cT bD nD cD) 31 (0, 0))) := heap_alloc_last _ _
    go_upto_region 6 with fail
    clear g0 g1 g2 g3 g4 j0 j1 j2 j3 j4 j5 j6 j7 j8
    generalize w4.alloc (.cells (dvc bρ nρ cρ bR nR cR bS nS cS bT nT cT bD nD cD) 31) = w5 at *
    generalize w4.heap.size = db at *
    obtain ⟨g0, g1, g2, g3, g4⟩ := HGc.out _ HO5.out
    obtain ⟨j0, j1, j2, j3, j4, j5, j6, j7, j8⟩ := HJc.out _ HO5.out
    have e0 : w5.cell? ⟨db, 0, none⟩ = some (.slice bρ nρ cρ) := cell_of_row _ _ 0 _ _ (0, 0) HR5.out
    go_upto_region 7 with (go_at_call 15; refine (HMx.out _ (HW0.out.trans HO5.out)).mono ?_; rintro e w6 ⟨o6, bm, rfl, hbm⟩; simp only [Bool.false_eq_true, if_false])
    clear g0 g1 g2 g3 g4 j0 j1 j2 j3 j4 j5 j6 j7 j8 e0 hbm
    obtain ⟨j0, j1, j2, j3, j4, j5, j6, j7, j8⟩ := HJc.out _ (HO5.out.trans o6)
    go_wp2_with fail
    go_ret
    exact ⟨rfl, (HW0.out.trans HO5.out).trans o6⟩
  rw [hm] at HMx0
  have hm' := hm
  unfold mixB at hm'
  simp only [Bool.and_eq_true_iff, decide_eq_true_eq] at hm'
  obtain ⟨e5, e6, hor, _⟩ := hm'
  have e5' : l = no := e5.symm
  subst e5'
  have e6' : l = nρ := e6.symm
  subst e6'
  clear e5 e6
  have HMx : Hid (∀ wx, Old w wx → Calls Tryz.prog 15 #[gv P Q G H a m cap, .int .u64 y, .slice bi l ci, .slice bo l co, .slice bρ l cρ] wx fun e w' => Old wx w' ∧ ∃ b, e = .returned (.tuple #[.slice b l l, .bool true]) ∧ BoxF w' b l (mixC P Q G y C O Rh)) := HMx0
  clear HMx0
  go_upto_region 5 with (first
    | (go_at_call 13; refine (HU.out _ (HW0.out.trans HO1.out)).mono ?_; rintro e w3 ⟨rfl, o3⟩; obtain ⟨j0, j1, j2, j3, j4, j5, j6, j7, j8⟩ := HJc.out _ (HO1.out.trans o3))
    | (go_at_call 14; refine (HL.out _).mono ?_; rintro e w4 ⟨rfl, o4⟩))
  have HO4 : Hid (Old W w4) := (HO1.out.trans o3).trans o4
  clear o3 o4 HU HL HO1 g0 g1 g2 g3 g4 j0 j1 j2 j3 j4 j5 j6 j7 j8
  obtain ⟨g0, g1, g2, g3, g4⟩ := HGc.out _ HO4.out
  obtain ⟨j0, j1, j2, j3, j4, j5, j6, j7, j8⟩ := HJc.out _ HO4.out
  have HO5 : Hid (Old W (w4.alloc (.cells (dvc bρ l cρ bR nR cR bS nS cS bT nT cT bD nD cD) 31))) := HO4.out.alloc _
  have HR5 : Hid ((w4.alloc (.cells (dvc bρ l cρ bR nR cR bS nS cS bT nT cT bD nD cD) 31)).heap[w4.heap.size]? = some (.cells (dvc bρ l cρ bR nR cR bS nS cS bT nT cT bD nD cD) 31 (0, 0))) := heap_alloc_last _ _
  go_upto_region 6 with fail
  clear g0 g1 g2 g3 g4 j0 j1 j2 j3 j4 j5 j6 j7 j8
  generalize w4.alloc (.cells (dvc bρ l cρ bR nR cR bS nS cS bT nT cT bD nD cD) 31) = w5 at *
  generalize w4.heap.size = db at *
  obtain ⟨g0, g1, g2, g3, g4⟩ := HGc.out _ HO5.out
  obtain ⟨j0, j1, j2, j3, j4, j5, j6, j7, j8⟩ := HJc.out _ HO5.out
  have e0 : w5.cell? ⟨db, 0, none⟩ = some (.slice bρ l cρ) := cell_of_row _ _ 0 _ _ (0, 0) HR5.out
  go_upto_region 7 with (go_at_call 15; refine (HMx.out _ (HW0.out.trans HO5.out)).mono ?_; rintro e w6 ⟨o6, bm, rfl, hbm⟩)
  clear g0 g1 g2 g3 g4 j0 j1 j2 j3 j4 j5 j6 j7 j8 e0
  have HO6 : Hid (Old W w6) := HO5.out.trans o6
  have HB6 : Hid (BoxF w6 bm l (mixC P Q G y C O Rh)) := hbm
  have HD6 : Hid (∀ wx, Old w6 wx → wx.heap[db]? = some (.cells (dvc bρ l cρ bR nR cR bS nS cS bT nT cT bD nD cD) 31 (0, 0))) := fun wx ho => ((o6.trans ho).block _ (obj_lt HR5.out)).trans HR5.out
  clear o6 hbm HR5 HO5 HMx
  obtain ⟨j0, j1, j2, j3, j4, j5, j6, j7, j8⟩ := HJc.out _ HO6.out
  go_upto_region 8 with fail
  clear j0 j1 j2 j3 j4 j5 j6 j7 j8
  have dd := HD6.out _ (Old.refl _)
  have d1 : w6.cell? ⟨db, 1, none⟩ = some (.slice bR nR cR) := cell_of_row _ _ 1 _ _ (0, 0) dd
  have d2 : w6.cell? ⟨db, 2, none⟩ = some (.slice bS nS cS) := cell_of_row _ _ 2 _ _ (0, 0) dd
  have d3 : w6.cell? ⟨db, 3, none⟩ = some (.slice bT nT cT) := cell_of_row _ _ 3 _ _ (0, 0) dd
  have d4 : w6.cell? ⟨db, 4, none⟩ = some (.slice bD nD cD) := cell_of_row _ _ 4 _ _ (0, 0) dd
  clear dd
  by_cases knR : nR = l
  rotate_left
  · have q1 : ¬ (nR : Int) = (l : Int) := by omega
    have q2 : ((nR : Int) != (l : Int)) = true := by simpa using q1
    clear knR h4 hC hO hρ hR hS hT hD hr
    go_wp2_with fail
    go_ret
    exact ⟨rfl, HW0.out.trans HO6.out⟩
  have knR' : l = nR := knR.symm
  subst knR'
  clear knR
  by_cases knS : nS = l
  rotate_left
  · have q1 : ¬ (nS : Int) = (l : Int) := by omega
    have q2 : ((nS : Int) != (l : Int)) = true := by simpa using q1
    clear knS h4 hC hO hρ hR hS hT hD hr
    go_wp2_with fail
    go_ret
    exact ⟨rfl, HW0.out.trans HO6.out⟩
  have knS' : l = nS := knS.symm
  subst knS'
  clear knS
  by_cases knT : nT = l
  rotate_left
  · have q1 : ¬ (nT : Int) = (l : Int) := by omega
    have q2 : ((nT : Int) != (l : Int)) = true := by simpa using q1
    clear knT h4 hC hO hρ hR hS hT hD hr
    go_wp2_with fail
    go_ret
    exact ⟨rfl, HW0.out.trans HO6.out⟩
  have knT' : l = nT := knT.symm
  subst knT'
  clear knT
  by_cases knD : nD = 7 * l + 3
  rotate_left
  · have q1 : ¬ (nD : Int) = 7 * (l : Int) + 3 := by omega
    have q2 : ((nD : Int) != 7 * (l : Int) + 3) = true := by simpa using q1
    clear knD h4 hC hO hρ hR hS hT hD hr
    go_wp2_with fail
    go_ret
    exact ⟨rfl, HW0.out.trans HO6.out⟩
  have q9 : (nD : Int) = 7 * (l : Int) + 3 := by omega
  have q8 : ((nD : Int) != 7 * (l : Int) + 3) = false := by simpa using q9
  have M8 : Mix8 P Q G H y l C O Rh R S T := mix8_of hr hh hm hρ hR hS hT
  have uX : U64 X := hXu
  have uY : U64 Y := hYu
  have uZ : U64 Z := hZu
  have HFi : Hid (∀ wx, Old w wx → Calls Tryz.prog 20 #[gv P Q G H a m cap, .slice bo l co, .slice bR l cR] wx fun e w' => Old wx w' ∧ ∃ v, e = .returned v ∧ Nums w' wx.heap.size v l (aF P Q G H O R)) := fun wx ho => (sfirst_any P Q G H a m cap bo l co O bR l cR R wx h4 hr (by omega) (by omega) (hO.old ho) (hR.old ho)).mono fun e w' ⟨k, v, he, hN⟩ => by
    rw [hor, Bool.true_and, if_pos (by simp)] at hN
    exact ⟨k, v, he, hN⟩
  have HSe : Hid (∀ wx, Old w wx → Calls Tryz.prog 22 #[gv P Q G H a m cap, .slice bo l co, .int .u64 X, .slice bS l cS] wx fun e w' => Old wx w' ∧ ∃ b c, e = .returned (.slice b l c) ∧ Nums w' wx.heap.size (.slice b l c) l (bF P Q G H X O S)) := fun wx ho => (ssecond_any P Q G H a m cap bo l co O X bS l cS S wx h4 hr uX (by omega) (by omega) (hO.old ho) (hS.old ho)).mono fun e w' ⟨k, v, he, hN⟩ => by
    rw [hor, Bool.true_and, if_pos (by simp)] at hN
    obtain ⟨b, c, rfl⟩ := own_slice8 hN
    exact ⟨k, b, c, he, hN⟩
  have HTh : Hid (∀ wx ba ca bb cb bp np cp, Old w wx → FacsIn wx ba l (aF P Q G H O R) → FacsIn wx bb l (bF P Q G H X O S) → Calls Tryz.prog 24 #[gv P Q G H a m cap, .slice bo l co, tk ba l ca X bb l cb Y Z bp np cp, dv bρ l cρ bR l cR bS l cS bT l cT bD nD cD] wx fun e w' => Old wx w' ∧ ∃ b c, e = .returned (.slice b l c) ∧ Nums w' wx.heap.size (.slice b l c) l (pF P Q G H X Y Z O R S T)) := fun wx ba ca bb cb bp np cp ho hA hB => (sthird_any P Q G H a m cap bo l co O ba l ca (aF P Q G H O R) X bb l cb (bF P Q G H X O S) Y Z bp np cp bρ l cρ bR l cR bS l cS bT l cT T bD nD cD wx h4 hr uX uY uZ (by omega) (by omega) (by omega) (by omega) (hO.old ho) hA hB (hT.old ho)).mono fun e w' ⟨k, v, he, hN⟩ => by
    rw [hor, Bool.true_and, if_pos (by simp)] at hN
    obtain ⟨b, c, rfl⟩ := own_slice8 hN
    exact ⟨k, b, c, he, hN⟩
  have HAu : Hid (∀ i, U64 ((aF P Q G H O R) i)) := fun i => u64_com8 _ _ _ _ _ _
  have HBu : Hid (∀ i, U64 ((bF P Q G H X O S) i)) := fun i => u64_com8 _ _ _ _ _ _
  have HPu : Hid (∀ i, U64 ((pF P Q G H X Y Z O R S T) i)) := fun i => thi_u64 _ _ _ _ _ _ _ _ _ _ _ i
  have HCl : Hid (∀ wx bm ba ca bb cb bp cp, Old w wx → BoxsIn wx bm l (mixC P Q G y C O Rh) → FacsIn wx ba l (aF P Q G H O R) → FacsIn wx bb l (bF P Q G H X O S) → FacsIn wx bp l (pF P Q G H X Y Z O R S T) → Calls Tryz.prog 28 #[gv P Q G H a m cap, .int .u64 y, .slice bi l ci, .slice bm l l, tk ba l ca X bb l cb Y Z bp l cp] wx (GivD wx true (4 * l + 6) (tgtT P Q G X Y Z l (aF P Q G H O R) (bF P Q G H X O S) (pF P Q G H X Y Z O R S T) (uC C) (vC C)) (fun _ => 7 * l + 3) (bas8 l (pF P Q G H X Y Z O R S T) G H y (uC (mixC P Q G y C O Rh)) (vC (mixC P Q G y C O Rh))))) := fun wx bm ba ca bb cb bp cp ho hb hA hB hP => by
    have h := sclaim_any P Q G H a m cap y bi l ci C bm l l (mixC P Q G y C O Rh) ba l ca (aF P Q G H O R) X bb l cb (bF P Q G H X O S) Y Z bp l cp (pF P Q G H X Y Z O R S T) wx (by omega) h4 hr hy uX uY uZ (hC.old ho) hb hA hB hP
    rw [M8.clm X uY.1 uZ.1] at h
    exact h
  have HTu : Hid (∀ j, U64 ((tgtT P Q G X Y Z l (aF P Q G H O R) (bF P Q G H X O S) (pF P Q G H X Y Z O R S T) (uC C) (vC C)) j)) := u64_tgt (fun i _ => HAu.out i) (fun i _ => HBu.out i) (fun i _ => HPu.out i)
  have HRu : Hid (∀ j, j < 4 * l + 6 → ∀ k, U64 ((bas8 l (pF P Q G H X Y Z O R S T) G H y (uC (mixC P Q G y C O Rh)) (vC (mixC P Q G y C O Rh))) j k)) := u64_bas ⟨h4.g0, h4.g1⟩ ⟨h4.h0, h4.h1⟩ hy (fun i _ => HPu.out i) (fun i k hi hk => mixC_u64 _ _ _ _ _ _ _ i k)
  have HEx : Hid (∀ wx ba ca bb cb bp np cp, Old w wx → Calls Tryz.prog 26 #[gv P Q G H a m cap, .slice bo l co, tk ba l ca X bb l cb Y Z bp np cp, dv bρ l cρ bR l cR bS l cS bT l cT bD nD cD] wx fun e w' => Old wx w' ∧ ∃ v, e = .returned v ∧ Nums w' wx.heap.size v (7 * l + 3) (exF Q X Y Z l (fun i => (O i).toNat) R S T Rh)) := fun wx ba ca bb cb bp np cp ho => (sexp_any P Q G H a m cap bo l co O ba l ca X bb l cb Y Z bp np cp bρ l cρ Rh bR l cR R bS l cS S bT l cT T bD nD cD wx hr uX uY uZ (by omega) hcT.1 hcT.2 (hO.old ho) (hρ.old ho) (hR.old ho) (hS.old ho) (hT.old ho)).mono fun e w' ⟨k, v, he, hN⟩ => by
    rw [show expB l O l l l l = true by unfold expB; simp [hor], if_pos rfl] at hN
    exact ⟨k, v, he, hN⟩
  have HEu : Hid (∀ i, U64 ((exF Q X Y Z l (fun i => (O i).toNat) R S T Rh) i)) := fun i => u64_exF8 hr.q1' h4.q1 i
  have HIu : Hid (∀ i, U64 ((fun j => imI P Q ((bas8 l (pF P Q G H X Y Z O R S T) G H y (uC (mixC P Q G y C O Rh)) (vC (mixC P Q G y C O Rh))) j) D (7 * l + 3)) i)) := fun i => u64_prod _ _ _
  have HZu : Hid (∀ i, U64 ((fun k => ansI Q E ((exF Q X Y Z l (fun i => (O i).toNat) R S T Rh) k) (D k)) i)) := fun i => u64_ans _ _ _ _
  have hD0 : ∀ k, k < 7 * l + 3 → 0 ≤ D k := fun k hk => (hD.u64 k (by omega)).1
  have HIm : Hid (∀ wx bt ct b2 c2 BA Cc, Old w wx → ClaimIn wx bt (4 * l + 6) ct (tgtT P Q G X Y Z l (aF P Q G H O R) (bF P Q G H X O S) (pF P Q G H X Y Z O R S T) (uC C) (vC C)) b2 (4 * l + 6) c2 BA (fun _ => 7 * l + 3) Cc (bas8 l (pF P Q G H X Y Z O R S T) G H y (uC (mixC P Q G y C O Rh)) (vC (mixC P Q G y C O Rh))) → Calls Tryz.prog 42 #[gv P Q G H a m cap, cv bt (4 * l + 6) ct b2 (4 * l + 6) c2, .slice bD nD cD] wx fun e w' => Old wx w' ∧ ∃ b c, e = .returned (.tuple #[.slice b (4 * l + 6) c, .bool true]) ∧ Nums w' wx.heap.size (.slice b (4 * l + 6) c) (4 * l + 6) (fun j => imI P Q ((bas8 l (pF P Q G H X Y Z O R S T) G H y (uC (mixC P Q G y C O Rh)) (vC (mixC P Q G y C O Rh))) j) D (7 * l + 3))) := fun wx bt ct b2 c2 BA Cc ho hc => ((limage_gen P Q G H a m cap bt (4 * l + 6) ct _ b2 (4 * l + 6) c2 BA _ Cc _ bD nD cD D wx h4 hr hc (hD.old ho)).mono fun e w' h => h.gives (by omega)).mono fun e w' ⟨v, he, hN, ho⟩ => by
    rw [(M8.claim X uY.1 uZ.1).size, show fitsB (7 * l + 3) nD = true from fitsB_iff.2 ⟨by omega, by omega⟩] at hN he
    simp only [if_true] at hN
    obtain ⟨b, c, rfl⟩ := own_slice8 hN
    exact ⟨ho, b, c, he, hN⟩
  have HAn : Hid (∀ wx be ce, Old w wx → 7 * l + 3 ≤ ce → FacsIn wx be (7 * l + 3) (exF Q X Y Z l (fun i => (O i).toNat) R S T Rh) → Calls Tryz.prog 43 #[gv P Q G H a m cap, .slice be (7 * l + 3) ce, .slice bD nD cD, .int .u64 E] wx fun e w' => Old wx w' ∧ ∃ b c, e = .returned (.tuple #[.slice b (7 * l + 3) c, .bool true]) ∧ Nums w' wx.heap.size (.slice b (7 * l + 3) c) (7 * l + 3) (fun k => ansI Q E ((exF Q X Y Z l (fun i => (O i).toNat) R S T Rh) k) (D k))) := fun wx be ce ho hce he => (lanswer_any P Q G H a m cap be (7 * l + 3) ce _ bD nD cD D E wx h4 hr hEu (by omega) (by omega) hce hcD.1 he (hD.old ho)).mono fun e w' ⟨v, he, hN, ho⟩ => by
    rw [decide_eq_true (show 7 * l + 3 = nD by omega)] at hN he
    simp only [if_true] at hN
    obtain ⟨b, c, rfl⟩ := own_slice8 hN
    exact ⟨ho, b, c, he, hN⟩
  have HFk : Hid (∀ wx bt ct b2 c2 BA Cc bz cz, ClaimIn wx bt (4 * l + 6) ct (tgtT P Q G X Y Z l (aF P Q G H O R) (bF P Q G H X O S) (pF P Q G H X Y Z O R S T) (uC C) (vC C)) b2 (4 * l + 6) c2 BA (fun _ => 7 * l + 3) Cc (bas8 l (pF P Q G H X Y Z O R S T) G H y (uC (mixC P Q G y C O Rh)) (vC (mixC P Q G y C O Rh))) → FacsIn wx bz (7 * l + 3) (fun k => ansI Q E ((exF Q X Y Z l (fun i => (O i).toNat) R S T Rh) k) (D k)) → Calls Tryz.prog 44 #[gv P Q G H a m cap, cv bt (4 * l + 6) ct b2 (4 * l + 6) c2, .int .u64 E, .slice bz (7 * l + 3) cz] wx fun e w' => Old wx w' ∧ ∃ b c F, e = .returned (.tuple #[.slice b (4 * l + 6) c, .bool true]) ∧ FacsIn w' b (4 * l + 6) F ∧ ∀ j, j < 4 * l + 6 → (fun j => imI P Q ((bas8 l (pF P Q G H X Y Z O R S T) G H y (uC (mixC P Q G y C O Rh)) (vC (mixC P Q G y C O Rh))) j) D (7 * l + 3)) j = F j) := fun wx bt ct b2 c2 BA Cc bz cz hc hz => (lfake_gen P Q G H a m cap bt (4 * l + 6) ct _ b2 (4 * l + 6) c2 BA _ Cc _ E bz (7 * l + 3) cz _ wx h4 hr hEu hc hz).mono fun e w' ⟨v, he, hN, ho⟩ => by
    rw [(M8.claim X uY.1 uZ.1).size, show fitsB (7 * l + 3) (7 * l + 3) = true from fitsB_iff.2 ⟨by omega, rfl⟩] at hN he
    simp only [if_true] at hN
    obtain ⟨b, c, rfl⟩ := own_slice8 hN
    refine ⟨ho, b, c, _, he, nums_facs8 hN (fun i => u64_over _ _ _), fun j hj => ?_⟩
    have h := hr.fake_ans (e := E) (W := (exF Q X Y Z l (fun i => (O i).toNat) R S T Rh)) (D := D) (7 * l + 3) ((M8.claim X uY.1 uZ.1).bin j hj) (fun k _ => exF_nn hr.q1' k) hD0 hEu.1
    rw [M8.im X uY.1 uZ.1 hj] at h
    exact h.symm
  have HSa : Hid (∀ wx b c F b' c' F', FacsIn wx b (4 * l + 6) F → FacsIn wx b' (4 * l + 6) F' → (∀ j, j < 4 * l + 6 → F j = F' j) → Calls Tryz.prog 19 #[.slice b (4 * l + 6) c, .slice b' (4 * l + 6) c'] wx (Ret wx (.bool true))) := fun wx b c F b' c' F' h1 h2 he => by
    have h := rsame_any b (4 * l + 6) c F b' (4 * l + 6) c' F' wx (by omega) h1 h2
    rw [sameB_iff.2 ⟨rfl, he⟩] at h
    exact h
  have HAc : Hid (∀ wx bt ct b2 c2 BA Cc bk ck bz cz, ClaimIn wx bt (4 * l + 6) ct (tgtT P Q G X Y Z l (aF P Q G H O R) (bF P Q G H X O S) (pF P Q G H X Y Z O R S T) (uC C) (vC C)) b2 (4 * l + 6) c2 BA (fun _ => 7 * l + 3) Cc (bas8 l (pF P Q G H X Y Z O R S T) G H y (uC (mixC P Q G y C O Rh)) (vC (mixC P Q G y C O Rh))) → FacsIn wx bk (4 * l + 6) (fun j => imI P Q ((bas8 l (pF P Q G H X Y Z O R S T) G H y (uC (mixC P Q G y C O Rh)) (vC (mixC P Q G y C O Rh))) j) D (7 * l + 3)) → FacsIn wx bz (7 * l + 3) (fun k => ansI Q E ((exF Q X Y Z l (fun i => (O i).toNat) R S T Rh) k) (D k)) → Calls Tryz.prog 45 #[gv P Q G H a m cap, cv bt (4 * l + 6) ct b2 (4 * l + 6) c2, .slice bk (4 * l + 6) ck, .int .u64 E, .slice bz (7 * l + 3) cz] wx (Ret wx (.bool true))) := fun wx bt ct b2 c2 BA Cc bk ck bz cz hc hk hz => by
    have h := laccepts_gen P Q G H a m cap bt (4 * l + 6) ct _ b2 (4 * l + 6) c2 BA _ Cc _ bk (4 * l + 6) ck _ E bz (7 * l + 3) cz _ wx h4 hr hEu (by omega) hc hk hz
    rw [M8.acc X uY.1 uZ.1 hEu.1 hD0] at h
    exact h
  have HIs : Hid (IsClaim P Q (4 * l + 6) (tgtT P Q G X Y Z l (aF P Q G H O R) (bF P Q G H X O S) (pF P Q G H X Y Z O R S T) (uC C) (vC C)) (4 * l + 6) (fun _ => 7 * l + 3) (bas8 l (pF P Q G H X Y Z O R S T) G H y (uC (mixC P Q G y C O Rh)) (vC (mixC P Q G y C O Rh))) (7 * l + 3)) := M8.claim X uY.1 uZ.1
  clear M8 hm hor hh
  go_upto_region 10 with fail
  clear d1 d2 d3 d4 q8 q9 knD hD0
  have HX6 : Hid (∀ wx, Old w6 wx → wx.heap[gb + 1 + 1]? = some (.cells #[.int .u64 X, .int .u64 Y, .int .u64 Z, .int .u64 E] 78 (0, 0))) := fun wx ho => HX.out wx (HO6.out.trans ho)
  have HG6 : Hid (∀ wx, Old w6 wx → wx.heap[gb]? = some (.cells (gc P Q G H a m cap) 25 (0, 0))) := fun wx ho => HG.out wx (HO6.out.trans ho)
  have HJ6 : Hid (∀ wx, Old w6 wx → wx.heap[gb + 1]? = some (.cells (jvc label y bi l ci bo l co bρ l cρ bR l cR bS l cS bT l cT bD nD cD) 33 (0, 0))) := fun wx ho => HJ.out wx (HO6.out.trans ho)
  refine wp_region_tab2 (Rl := OldT 41) 15 [.k (gv P Q G H a m cap), .k (.pointer (some ⟨gb + 1, 3, none⟩)), .k (.slice bo l co), .k (.pointer (some ⟨db, 1, none⟩)), .k (.slice bR l cR), numE (by decide) w6.heap.size l (aF P Q G H O R), .k (.pointer (some ⟨gb + 1 + 1, 0, none⟩)), .k (.int .u64 X), .k (.pointer (some ⟨gb + 1 + 1, 1, none⟩)), .k (.int .u64 Y), .k (.pointer (some ⟨gb + 1 + 1, 2, none⟩)), .k (.int .u64 Z), tkE w6.heap.size l (aF P Q G H O R) X Y Z, varE 41 6 w6.heap.size, putE 41 13 12 w6.heap.size] (Old w6) (by kernel_rfl) (by kernel_rfl) rfl (by kernel_rfl) ((Old.refl _).drew) ?st ?_
  case st =>
    refine .c (stsy Tryz.underlying25 HG6.out) <|
      .c stpy <|
      .c (stfy 3 Tryz.underlying27 HJ6.out) <|
      .c stpy <|
      .c (stfy 1 Tryz.underlying29 HD6.out) <|
      .c (stCy (args := fun t => #[gv P Q G H a m cap, .slice bo l co, .slice bR l cR]) old_R Tryz.func20 fun t wx hR hd => ?_) <|
      .c (sazy (n := 4) (k := 0) (by omega) Tryz.underlying78) <|
      .c (stfy 0 Tryz.underlying22 HX6.out) <|
      .c (sazy (n := 4) (k := 1) (by omega) Tryz.underlying78) <|
      .c (stfy 1 Tryz.underlying22 HX6.out) <|
      .c (sazy (n := 4) (k := 2) (by omega) Tryz.underlying78) <|
      .c (stfy 2 Tryz.underlying22 HX6.out) <|
      .c (stxy fun t wx hR hd => ?_) <|
      .c (stmy (ob := fun _ => .cells #[.slice none 0 0, .int .u64 0, .slice none 0 0, .int .u64 0, .int .u64 0, .slice none 0 0] 41) (v := fun s => .pointer (some ⟨s, 0, none⟩)) old_R fun t wx hR hd => ⟨_, rfl, hR.size, _, heap_alloc_last _ _, rfl⟩) <|
      .c (stPy (n := 6) (fun _ _ => True) (fun w g cells h hg => h.setRow hg cells) fun t wx hR hd => ?_) .n
    · exact (HFi.out wx ((HW0.out.trans HO6.out).trans hR)).mono fun r w' ⟨o, v, e, hN⟩ => ⟨_, e, o, hN.mono hR.size⟩
    · have hN : Nums wx w6.heap.size (t 5) l (aF P Q G H O R) := hd 5 (by kernel_rfl)
      obtain ⟨b, c, e5⟩ := own_slice8 hN
      rw [e5] at hN
      exact ⟨tk b l c X none 0 0 Y Z none 0 0, run_build8 (vs := [(0, .slice b l c), (1, .int .u64 X), (3, .int .u64 Y), (4, .int .u64 Z)]) (by rw [← e5]; kernel_rfl) (by kernel_rfl), b, c, rfl, hN⟩
    · obtain ⟨b, c, e12, _⟩ : ∃ b c, t 12 = tk b l c X none 0 0 Y Z none 0 0 ∧ Nums wx w6.heap.size (.slice b l c) l (aF P Q G H O R) := hd 12 (by kernel_rfl)
      obtain ⟨g, e13, hg, cs, hcs, hs⟩ : ∃ b, t 13 = .pointer (some ⟨b, 0, none⟩) ∧ w6.heap.size ≤ b ∧ ∃ cs, wx.heap[b]? = some (.cells cs 41 (0, 0)) ∧ cs.size = 6 := hd 13 (by kernel_rfl)
      exact ⟨g, _, cs, e13, e12, hg, hcs, hs, rfl, by simp [Value.oneCell']⟩
  intro t wx hR hk
  simp only [fill2, Ent2.val, numE, tkE, varE, putE, List.set_cons_zero, List.set_cons_succ, List.drop_succ_cons, List.drop_zero, List.drop_nil]
  obtain ⟨ba, ca, e12, N1⟩ : ∃ b c, t 12 = tk b l c X none 0 0 Y Z none 0 0 ∧ Nums wx w6.heap.size (.slice b l c) l (aF P Q G H O R) := hk 12 (by omega)
  obtain ⟨tb, cs, e14, htb, hrow⟩ : ∃ b cs, [t 13, t 12] = [.pointer (some ⟨b, 0, none⟩), .agg cs] ∧ w6.heap.size ≤ b ∧ wx.heap[b]? = some (.cells cs 41 (0, 0)) := hk 14 (by omega)
  rw [e12] at e14
  have e13 : t 13 = .pointer (some ⟨tb, 0, none⟩) := by injection e14
  have ecs : cs = tkc ba l ca X none 0 0 Y Z none 0 0 := by
    injection e14 with _ e14
    injection e14 with e14 _
    injection e14 with e14
    exact e14.symm
  subst ecs
  rw [e13]
  clear e12 e13 e14 hk
  have HO7 : Hid (Old w6 wx) := hR
  have HN7 : Hid (Nums wx w6.heap.size (.slice ba l ca) l (aF P Q G H O R)) := N1
  have HR7 : Hid (wx.heap[tb]? = some (.cells (tkc ba l ca X none 0 0 Y Z none 0 0) 41 (0, 0))) := hrow
  have Htb : Hid (w6.heap.size ≤ tb) := htb
  clear hR N1 hrow htb HFi
  obtain ⟨g0, g1, g2, g3, g4⟩ := HGc.out _ (HO6.out.trans HO7.out)
  obtain ⟨j0, j1, j2, j3, j4, j5, j6, j7, j8⟩ := HJc.out _ (HO6.out.trans HO7.out)
  have dd := HD6.out _ HO7.out
  have d2 : wx.cell? ⟨db, 2, none⟩ = some (.slice bS l cS) := cell_of_row _ _ 2 _ _ (0, 0) dd
  have z1 : wx.cell? ⟨tb, 1, none⟩ = some (.int .u64 X) := cell_of_row _ _ 1 _ _ (0, 0) HR7.out
  have htb7 : tb < wx.heap.size := obj_lt HR7.out
  clear dd
  go_upto_region 12 with (go_at_call 22; refine (HSe.out _ ((HW0.out.trans HO6.out).trans HO7.out)).mono ?_; rintro e w8 ⟨o8, bb, cb, rfl, hfb⟩; have hr8 := (o8.block _ htb7).trans HR7.out; have q1 : w8.cell? ⟨tb, 2, none⟩ = some (.slice none 0 0) := cell_of_row _ _ 2 _ _ (0, 0) hr8; have f1 : w8.frozen? ⟨tb, 2, none⟩ = false := row_frozen hr8 2)
  have HR8 : Hid ((w8.setCell ⟨tb, 2, none⟩ (.slice bb l cb)).heap[tb]? = some (.cells (tkc ba l ca X bb l cb Y Z none 0 0) 41 (0, 0))) := by
    have := set_row hr8 2 (.slice bb l cb)
    unfold Hid; simpa using this
  have HO8 : Hid (Old w6 (w8.setCell ⟨tb, 2, none⟩ (.slice bb l cb))) := (HO7.out.trans o8).setCell (p := ⟨tb, 2, none⟩) Htb.out _
  have HN8 : Hid (Nums (w8.setCell ⟨tb, 2, none⟩ (.slice bb l cb)) w6.heap.size (.slice ba l ca) l (aF P Q G H O R)) := (HN7.out.old o8).setT (by decide) (p := ⟨tb, 2, none⟩) hr8 _
  have HM8 : Hid (Nums (w8.setCell ⟨tb, 2, none⟩ (.slice bb l cb)) wx.heap.size (.slice bb l cb) l (bF P Q G H X O S)) := hfb.setT (by decide) (p := ⟨tb, 2, none⟩) hr8 _
  clear hr8 q1 f1 o8 hfb z1 d2 g0 g1 g2 g3 g4 j0 j1 j2 j3 j4 j5 j6 j7 j8 HN7 HR7 HSe htb7
  generalize (w8.setCell ⟨tb, 2, none⟩ (.slice bb l cb)) = w9 at *
  obtain ⟨g0, g1, g2, g3, g4⟩ := HGc.out _ (HO6.out.trans HO8.out)
  obtain ⟨j0, j1, j2, j3, j4, j5, j6, j7, j8⟩ := HJc.out _ (HO6.out.trans HO8.out)
  have dd := HD6.out _ HO8.out
  have d0 : w9.cell? ⟨db, 0, none⟩ = some (.slice bρ l cρ) := cell_of_row _ _ 0 _ _ (0, 0) dd
  have d1 : w9.cell? ⟨db, 1, none⟩ = some (.slice bR l cR) := cell_of_row _ _ 1 _ _ (0, 0) dd
  have d2 : w9.cell? ⟨db, 2, none⟩ = some (.slice bS l cS) := cell_of_row _ _ 2 _ _ (0, 0) dd
  have d3 : w9.cell? ⟨db, 3, none⟩ = some (.slice bT l cT) := cell_of_row _ _ 3 _ _ (0, 0) dd
  have d4 : w9.cell? ⟨db, 4, none⟩ = some (.slice bD nD cD) := cell_of_row _ _ 4 _ _ (0, 0) dd
  have z0 : w9.cell? ⟨tb, 0, none⟩ = some (.slice ba l ca) := cell_of_row _ _ 0 _ _ (0, 0) HR8.out
  have z1 : w9.cell? ⟨tb, 1, none⟩ = some (.int .u64 X) := cell_of_row _ _ 1 _ _ (0, 0) HR8.out
  have z2 : w9.cell? ⟨tb, 2, none⟩ = some (.slice bb l cb) := cell_of_row _ _ 2 _ _ (0, 0) HR8.out
  have z3 : w9.cell? ⟨tb, 3, none⟩ = some (.int .u64 Y) := cell_of_row _ _ 3 _ _ (0, 0) HR8.out
  have z4 : w9.cell? ⟨tb, 4, none⟩ = some (.int .u64 Z) := cell_of_row _ _ 4 _ _ (0, 0) HR8.out
  have z5 : w9.cell? ⟨tb, 5, none⟩ = some (.slice none 0 0) := cell_of_row _ _ 5 _ _ (0, 0) HR8.out
  have htb9 : tb < w9.heap.size := obj_lt HR8.out
  clear dd
  have HFa : Hid (FacsIn w9 ba l (aF P Q G H O R)) := nums_facs8 HN8.out HAu.out
  have HFb : Hid (FacsIn w9 bb l (bF P Q G H X O S)) := nums_facs8 HM8.out HBu.out
  go_upto_region 13 with (go_at_call 24; refine (HTh.out _ _ _ _ _ _ _ _ ((HW0.out.trans HO6.out).trans HO8.out) HFa.out HFb.out).mono ?_; rintro e wa ⟨oa, bp, cp, rfl, hfp⟩; have hra := (oa.block _ htb9).trans HR8.out; have q1 : wa.cell? ⟨tb, 5, none⟩ = some (.slice none 0 0) := cell_of_row _ _ 5 _ _ (0, 0) hra; have f1 : wa.frozen? ⟨tb, 5, none⟩ = false := row_frozen hra 5)
  have HRb : Hid ((wa.setCell ⟨tb, 5, none⟩ (.slice bp l cp)).heap[tb]? = some (.cells (tkc ba l ca X bb l cb Y Z bp l cp) 41 (0, 0))) := by
    have := set_row hra 5 (.slice bp l cp)
    unfold Hid; simpa using this
  have HOb : Hid (Old w6 (wa.setCell ⟨tb, 5, none⟩ (.slice bp l cp))) := (HO8.out.trans oa).setCell (p := ⟨tb, 5, none⟩) Htb.out _
  have HFx : Hid (FacsIn (wa.setCell ⟨tb, 5, none⟩ (.slice bp l cp)) ba l (aF P Q G H O R)) := nums_facs8 ((HN8.out.old oa).setT (by decide) (p := ⟨tb, 5, none⟩) hra _) HAu.out
  have HFy : Hid (FacsIn (wa.setCell ⟨tb, 5, none⟩ (.slice bp l cp)) bb l (bF P Q G H X O S)) := nums_facs8 ((HM8.out.old oa).setT (by decide) (p := ⟨tb, 5, none⟩) hra _) HBu.out
  have HFz : Hid (FacsIn (wa.setCell ⟨tb, 5, none⟩ (.slice bp l cp)) bp l (pF P Q G H X Y Z O R S T)) := nums_facs8 (hfp.setT (by decide) (p := ⟨tb, 5, none⟩) hra _) HPu.out
  clear hra q1 f1 oa hfp z0 z1 z2 z3 z4 z5 d0 d1 d2 d3 d4 g0 g1 g2 g3 g4 j0 j1 j2 j3 j4 j5 j6 j7 j8 HN8 HM8 HR8 HTh htb9 HFa HFb HO8 HAu HBu HPu
  generalize (wa.setCell ⟨tb, 5, none⟩ (.slice bp l cp)) = wb at *
  obtain ⟨g0, g1, g2, g3, g4⟩ := HGc.out _ (HO6.out.trans HOb.out)
  obtain ⟨j0, j1, j2, j3, j4, j5, j6, j7, j8⟩ := HJc.out _ (HO6.out.trans HOb.out)
  have z0 : wb.cell? ⟨tb, 0, none⟩ = some (.slice ba l ca) := cell_of_row _ _ 0 _ _ (0, 0) HRb.out
  have z1 : wb.cell? ⟨tb, 1, none⟩ = some (.int .u64 X) := cell_of_row _ _ 1 _ _ (0, 0) HRb.out
  have z2 : wb.cell? ⟨tb, 2, none⟩ = some (.slice bb l cb) := cell_of_row _ _ 2 _ _ (0, 0) HRb.out
  have z3 : wb.cell? ⟨tb, 3, none⟩ = some (.int .u64 Y) := cell_of_row _ _ 3 _ _ (0, 0) HRb.out
  have z4 : wb.cell? ⟨tb, 4, none⟩ = some (.int .u64 Z) := cell_of_row _ _ 4 _ _ (0, 0) HRb.out
  have z5 : wb.cell? ⟨tb, 5, none⟩ = some (.slice bp l cp) := cell_of_row _ _ 5 _ _ (0, 0) HRb.out
  have HBb : Hid (BoxsIn wb bm l (mixC P Q G y C O Rh)) := (HB6.out.old HOb.out).boxs
  go_upto_region 14 with (go_at_call 28; refine (HCl.out _ _ _ _ _ _ _ _ ((HW0.out.trans HO6.out).trans HOb.out) HBb.out HFx.out HFy.out HFz.out).mono ?_; intro e we hd; obtain ⟨bt, ct, b2, c2, BA, Cc, rfl, oe, hcl⟩ := GivD.made hd (fun j _ => HTu.out j) (fun j hj i _ => HRu.out j hj i))
  clear z0 z1 z2 z3 z4 z5 g0 g1 g2 g3 g4 j0 j1 j2 j3 j4 j5 j6 j7 j8 hd HFx HFy HFz HBb HTu HRu HCl
  have HOc : Old we (we.alloc (.cells #[.slice bt (4 * l + 6) ct, .slice b2 (4 * l + 6) c2] 50)) := (Old.refl _).alloc _
  have HOf : Hid (Old wb (we.alloc (.cells #[.slice bt (4 * l + 6) ct, .slice b2 (4 * l + 6) c2] 50))) := oe.trans HOc
  have HCf : Hid (ClaimIn (we.alloc (.cells #[.slice bt (4 * l + 6) ct, .slice b2 (4 * l + 6) c2] 50)) bt (4 * l + 6) ct (tgtT P Q G X Y Z l (aF P Q G H O R) (bF P Q G H X O S) (pF P Q G H X Y Z O R S T) (uC C) (vC C)) b2 (4 * l + 6) c2 BA (fun _ => 7 * l + 3) Cc (bas8 l (pF P Q G H X Y Z O R S T) G H y (uC (mixC P Q G y C O Rh)) (vC (mixC P Q G y C O Rh)))) := hcl.old HOc
  have HRf : Hid ((we.alloc (.cells #[.slice bt (4 * l + 6) ct, .slice b2 (4 * l + 6) c2] 50)).heap[we.heap.size]? = some (.cells #[.slice bt (4 * l + 6) ct, .slice b2 (4 * l + 6) c2] 50 (0, 0))) := heap_alloc_last _ _
  clear HOc hcl oe
  generalize we.alloc (.cells #[.slice bt (4 * l + 6) ct, .slice b2 (4 * l + 6) c2] 50) = wf at *
  generalize we.heap.size = lb8 at *
  have HO6f : Hid (Old w6 wf) := HOb.out.trans HOf.out
  have HGf : Hid (∀ wz, Old wf wz → wz.heap[gb]? = some (.cells (gc P Q G H a m cap) 25 (0, 0))) := fun wz ho => HG6.out wz (HO6f.out.trans ho)
  have HJf : Hid (∀ wz, Old wf wz → wz.heap[gb + 1]? = some (.cells (jvc label y bi l ci bo l co bρ l cρ bR l cR bS l cS bT l cT bD nD cD) 33 (0, 0))) := fun wz ho => HJ6.out wz (HO6f.out.trans ho)
  have HXf : Hid (∀ wz, Old wf wz → wz.heap[gb + 1 + 1]? = some (.cells #[.int .u64 X, .int .u64 Y, .int .u64 Z, .int .u64 E] 78 (0, 0))) := fun wz ho => HX6.out wz (HO6f.out.trans ho)
  have HDf : Hid (∀ wz, Old wf wz → wz.heap[db]? = some (.cells (dvc bρ l cρ bR l cR bS l cS bT l cT bD nD cD) 31 (0, 0))) := fun wz ho => HD6.out wz (HO6f.out.trans ho)
  have HTf : Hid (∀ wz, Old wf wz → wz.heap[tb]? = some (.cells (tkc ba l ca X bb l cb Y Z bp l cp) 41 (0, 0))) := fun wz ho => ((HOf.out.trans ho).block _ (obj_lt HRb.out)).trans HRb.out
  have HCr : Hid (∀ wz, Old wf wz → wz.heap[lb8]? = some (.cells #[.slice bt (4 * l + 6) ct, .slice b2 (4 * l + 6) c2] 50 (0, 0))) := fun wz ho => (ho.block _ (obj_lt HRf.out)).trans HRf.out
  have HWf : Hid (Old w wf) := (HW0.out.trans HO6.out).trans HO6f.out
  have g0 : wf.cell? ⟨gb, 0, none⟩ = some (.int .u64 P) := cell_of_row _ _ 0 _ _ (0, 0) (HGf.out _ (Old.refl _))
  have g1 : wf.cell? ⟨gb, 1, none⟩ = some (.int .u64 Q) := cell_of_row _ _ 1 _ _ (0, 0) (HGf.out _ (Old.refl _))
  have g2 : wf.cell? ⟨gb, 2, none⟩ = some (.int .u64 G) := cell_of_row _ _ 2 _ _ (0, 0) (HGf.out _ (Old.refl _))
  have g3 : wf.cell? ⟨gb, 3, none⟩ = some (.int .u64 H) := cell_of_row _ _ 3 _ _ (0, 0) (HGf.out _ (Old.refl _))
  have g4 : wf.cell? ⟨gb, 4, none⟩ = some (.slice a m cap) := cell_of_row _ _ 4 _ _ (0, 0) (HGf.out _ (Old.refl _))
  have v0 : wf.cell? ⟨lb8, 0, none⟩ = some (.slice bt (4 * l + 6) ct) := cell_of_row _ _ 0 _ _ (0, 0) (HCr.out _ (Old.refl _))
  have v1 : wf.cell? ⟨lb8, 1, none⟩ = some (.slice b2 (4 * l + 6) c2) := cell_of_row _ _ 1 _ _ (0, 0) (HCr.out _ (Old.refl _))
  have d4 : wf.cell? ⟨db, 4, none⟩ = some (.slice bD nD cD) := cell_of_row _ _ 4 _ _ (0, 0) (HDf.out _ (Old.refl _))
  go_upto_region 17 with (go_at_call 42; refine (HIm.out _ _ _ _ _ _ _ HWf.out HCf.out).mono ?_; rintro e wg ⟨og, bi2, ci2, rfl, hN1⟩)
  clear g0 g1 g2 g3 g4 v0 v1 d4 HIm
  have HOg : Hid (Old wf wg) := og
  have HF1 : Hid (FacsIn wg bi2 (4 * l + 6) (fun j => imI P Q ((bas8 l (pF P Q G H X Y Z O R S T) G H y (uC (mixC P Q G y C O Rh)) (vC (mixC P Q G y C O Rh))) j) D (7 * l + 3))) := nums_facs8 hN1 HIu.out
  clear og hN1
  refine wp_region_tab2 (Rl := OldT 41) 17 [.k (gv P Q G H a m cap), .k (gv P Q G H a m cap), .k (.pointer (some ⟨gb + 1, 3, none⟩)), .k (.slice bo l co), .k (tk ba l ca X bb l cb Y Z bp l cp), .k (dv bρ l cρ bR l cR bS l cS bT l cT bD nD cD), numE (by decide) wg.heap.size (7 * l + 3) (exF Q X Y Z l (fun i => (O i).toNat) R S T Rh), .k (.pointer (some ⟨db, 4, none⟩)), .k (.slice bD nD cD), .k (.pointer (some ⟨gb + 1 + 1, 3, none⟩)), .k (.int .u64 E), gvE (by decide) wg.heap.size (7 * l + 3) (fun k => ansI Q E ((exF Q X Y Z l (fun i => (O i).toNat) R S T Rh) k) (D k)), gvE (by decide) wg.heap.size (7 * l + 3) (fun k => ansI Q E ((exF Q X Y Z l (fun i => (O i).toNat) R S T Rh) k) (D k)), numE (by decide) wg.heap.size (7 * l + 3) (fun k => ansI Q E ((exF Q X Y Z l (fun i => (O i).toNat) R S T Rh) k) (D k)), .k (.bool true), numE (by decide) wg.heap.size (7 * l + 3) (fun k => ansI Q E ((exF Q X Y Z l (fun i => (O i).toNat) R S T Rh) k) (D k)), .k (.bool true)] (Old wg) (by kernel_rfl) (by kernel_rfl) rfl (by kernel_rfl) ((Old.refl _).drew) ?st ?_
  case st =>
    refine .c (stsy Tryz.underlying25 (fun wz ho => HGf.out wz (HOg.out.trans ho))) <|
      .c (stsy Tryz.underlying25 (fun wz ho => HGf.out wz (HOg.out.trans ho))) <|
      .c stpy <|
      .c (stfy 3 Tryz.underlying27 (fun wz ho => HJf.out wz (HOg.out.trans ho))) <|
      .c (stsy Tryz.underlying41 (fun wz ho => HTf.out wz (HOg.out.trans ho))) <|
      .c (stsy Tryz.underlying31 (fun wz ho => HDf.out wz (HOg.out.trans ho))) <|
      .c (stCy (args := fun t => #[gv P Q G H a m cap, .slice bo l co, tk ba l ca X bb l cb Y Z bp l cp, dv bρ l cρ bR l cR bS l cS bT l cT bD nD cD]) old_R Tryz.func26 fun t wx hR hd => ?_) <|
      .c stpy <|
      .c (stfy 4 Tryz.underlying29 (fun wz ho => HDf.out wz (HOg.out.trans ho))) <|
      .c (sazy (n := 4) (k := 3) (by omega) Tryz.underlying78) <|
      .c (stfy 3 Tryz.underlying22 (fun wz ho => HXf.out wz (HOg.out.trans ho))) <|
      .c (stCy (args := fun t => #[gv P Q G H a m cap, t 6, .slice bD nD cD, .int .u64 E]) old_R Tryz.func43 fun t wx hR hd => ?_) <|
      .c (stxy fun t wx hR hd => ⟨t 11, by kernel_rfl, hd 11 (by kernel_rfl)⟩) <|
      .c (stxy fun t wx hR hd => ?_) <|
      .c (stzy fun t wx hR hd => ?_) <|
      .c (stxy fun t wx hR hd => ⟨t 13, by kernel_rfl, hd 13 (by kernel_rfl)⟩) <|
      .c stpy .n
    · exact (HEx.out wx ba ca bb cb bp l cp ((HWf.out.trans HOg.out).trans hR)).mono fun r w' ⟨o, v, e, hN⟩ => ⟨_, e, o, hN.mono hR.size⟩
    · have hN : Nums wx wg.heap.size (t 6) (7 * l + 3) (exF Q X Y Z l (fun i => (O i).toNat) R S T Rh) := hd 6 (by kernel_rfl)
      obtain ⟨be, ce, e6, q1, _, hf⟩ := hN.facs2 (fun i _ => HEu.out i)
      rw [e6]
      exact (HAn.out wx be ce ((HWf.out.trans HOg.out).trans hR) q1 hf).mono fun r w' ⟨o, b, c, e, hN⟩ => ⟨_, e, o, b, c, rfl, hN.mono hR.size⟩
    · obtain ⟨b, c, e, hN⟩ : ∃ b c, t 12 = .tuple #[.slice b (7 * l + 3) c, .bool true] ∧ Nums wx wg.heap.size (.slice b (7 * l + 3) c) (7 * l + 3) (fun k => ansI Q E ((exF Q X Y Z l (fun i => (O i).toNat) R S T Rh) k) (D k)) := hd 12 (by kernel_rfl)
      exact ⟨_, run_extract8 (Eq.trans (b := t 12) (by kernel_rfl) e) rfl, hN⟩
    · obtain ⟨b, c, e, hN⟩ : ∃ b c, t 12 = .tuple #[.slice b (7 * l + 3) c, .bool true] ∧ Nums wx wg.heap.size (.slice b (7 * l + 3) c) (7 * l + 3) (fun k => ansI Q E ((exF Q X Y Z l (fun i => (O i).toNat) R S T Rh) k) (D k)) := hd 12 (by kernel_rfl)
      exact run_extract8 (Eq.trans (b := t 12) (by kernel_rfl) e) rfl
  intro t wk hR hk
  simp only [fill2, Ent2.val, numE, gvE, List.set_cons_zero, List.set_cons_succ, List.drop_succ_cons, List.drop_zero, List.drop_nil]
  have hN : Nums wk wg.heap.size (t 15) (7 * l + 3) (fun k => ansI Q E ((exF Q X Y Z l (fun i => (O i).toNat) R S T Rh) k) (D k)) := hk 15 (by omega)
  obtain ⟨bz, cz, e15⟩ := own_slice8 hN
  rw [e15] at hN ⊢
  have HOk : Hid (Old wf wk) := HOg.out.trans hR
  have HF2 : Hid (FacsIn wk bz (7 * l + 3) (fun k => ansI Q E ((exF Q X Y Z l (fun i => (O i).toNat) R S T Rh) k) (D k))) := nums_facs8 hN HZu.out
  have HF3 : Hid (FacsIn wk bi2 (4 * l + 6) (fun j => imI P Q ((bas8 l (pF P Q G H X Y Z O R S T) G H y (uC (mixC P Q G y C O Rh)) (vC (mixC P Q G y C O Rh))) j) D (7 * l + 3))) := HF1.out.old hR
  clear hN e15 hk hR HEx HAn HEu HOg HF1
  have g0 : wk.cell? ⟨gb, 0, none⟩ = some (.int .u64 P) := cell_of_row _ _ 0 _ _ (0, 0) (HGf.out _ HOk.out)
  have g1 : wk.cell? ⟨gb, 1, none⟩ = some (.int .u64 Q) := cell_of_row _ _ 1 _ _ (0, 0) (HGf.out _ HOk.out)
  have g2 : wk.cell? ⟨gb, 2, none⟩ = some (.int .u64 G) := cell_of_row _ _ 2 _ _ (0, 0) (HGf.out _ HOk.out)
  have g3 : wk.cell? ⟨gb, 3, none⟩ = some (.int .u64 H) := cell_of_row _ _ 3 _ _ (0, 0) (HGf.out _ HOk.out)
  have g4 : wk.cell? ⟨gb, 4, none⟩ = some (.slice a m cap) := cell_of_row _ _ 4 _ _ (0, 0) (HGf.out _ HOk.out)
  have v0 : wk.cell? ⟨lb8, 0, none⟩ = some (.slice bt (4 * l + 6) ct) := cell_of_row _ _ 0 _ _ (0, 0) (HCr.out _ HOk.out)
  have v1 : wk.cell? ⟨lb8, 1, none⟩ = some (.slice b2 (4 * l + 6) c2) := cell_of_row _ _ 1 _ _ (0, 0) (HCr.out _ HOk.out)
  have x3 : wk.cell? ⟨gb + 1 + 1, 3, none⟩ = some (.int .u64 E) := cell_of_row _ _ 3 _ _ (0, 0) (HXf.out _ HOk.out)
  go_upto_region 19 with (go_at_call 44; refine (HFk.out _ _ _ _ _ _ _ _ _ (HCf.out.old HOk.out) HF2.out).mono ?_; rintro e wm ⟨om, by2, cy2, Fy, rfl, hfy, hsame⟩)
  clear g0 g1 g2 g3 g4 v0 v1 x3 HFk
  have HOm : Hid (Old wf wm) := HOk.out.trans om
  have HF4 : Hid (FacsIn wm by2 (4 * l + 6) Fy) := hfy
  have HF5 : Hid (FacsIn wm bi2 (4 * l + 6) (fun j => imI P Q ((bas8 l (pF P Q G H X Y Z O R S T) G H y (uC (mixC P Q G y C O Rh)) (vC (mixC P Q G y C O Rh))) j) D (7 * l + 3))) := HF3.out.old om
  have HF6 : Hid (FacsIn wm bz (7 * l + 3) (fun k => ansI Q E ((exF Q X Y Z l (fun i => (O i).toNat) R S T Rh) k) (D k))) := HF2.out.old om
  have HSm : Hid (∀ j, j < 4 * l + 6 → (fun j => imI P Q ((bas8 l (pF P Q G H X Y Z O R S T) G H y (uC (mixC P Q G y C O Rh)) (vC (mixC P Q G y C O Rh))) j) D (7 * l + 3)) j = Fy j) := hsame
  clear om hfy hsame HF2 HF3 HOk
  go_wp2_with (first
    | (go_at_call 19; refine (HSa.out _ _ _ _ _ _ _ HF5.out HF4.out HSm.out).mono ?_; rintro e wn ⟨rfl, on⟩; have g0 : wn.cell? ⟨gb, 0, none⟩ = some (.int .u64 P) := cell_of_row _ _ 0 _ _ (0, 0) (HGf.out _ (HOm.out.trans on)); have g1 : wn.cell? ⟨gb, 1, none⟩ = some (.int .u64 Q) := cell_of_row _ _ 1 _ _ (0, 0) (HGf.out _ (HOm.out.trans on)); have g2 : wn.cell? ⟨gb, 2, none⟩ = some (.int .u64 G) := cell_of_row _ _ 2 _ _ (0, 0) (HGf.out _ (HOm.out.trans on)); have g3 : wn.cell? ⟨gb, 3, none⟩ = some (.int .u64 H) := cell_of_row _ _ 3 _ _ (0, 0) (HGf.out _ (HOm.out.trans on)); have g4 : wn.cell? ⟨gb, 4, none⟩ = some (.slice a m cap) := cell_of_row _ _ 4 _ _ (0, 0) (HGf.out _ (HOm.out.trans on)); have v0 : wn.cell? ⟨lb8, 0, none⟩ = some (.slice bt (4 * l + 6) ct) := cell_of_row _ _ 0 _ _ (0, 0) (HCr.out _ (HOm.out.trans on)); have v1 : wn.cell? ⟨lb8, 1, none⟩ = some (.slice b2 (4 * l + 6) c2) := cell_of_row _ _ 1 _ _ (0, 0) (HCr.out _ (HOm.out.trans on)); have x3 : wn.cell? ⟨gb + 1 + 1, 3, none⟩ = some (.int .u64 E) := cell_of_row _ _ 3 _ _ (0, 0) (HXf.out _ (HOm.out.trans on)))
    | (go_at_call 45; refine (HAc.out _ _ _ _ _ _ _ _ _ _ _ (HCf.out.old (HOm.out.trans on)) (HF5.out.old on) (HF6.out.old on)).mono ?_; rintro e wo ⟨rfl, oo⟩))
  go_ret
  exact ⟨rfl, ((HWf.out.trans HOm.out).trans on).trans oo⟩

end Go.Proofs.YtlnmjbbpenhdbaaGreat

namespace Go.Proofs.YtlnmjbbpenhdbaaGreat
open Go.RowKit Go.ChangeShapes Go.WideShapes Go.Deep

section
variable {H : Type} {enc : TypeId × Value → H} {P : Program} {w : World}

theorem cell_lt {b off : Nat} {v : Value} (h : w.cell? ⟨b, off, none⟩ = some v) : b < w.heap.size := by
  refine Classical.byContradiction fun hc => ?_
  have : w.heap[b]? = none := by simp; omega
  simp [World.cell?, this] at h

theorem open_facs {t e : TypeId} {fuel : Nat} {v : Value} {x : DataW H × List MemPlace} (ht : P.underlying t = some (.slice e)) (he : P.underlying e = some (.int .u64)) (hc : P.cellsOf e = 1)
    (h : DataW.trod enc P w 0 (fun _ => true) true fuel t [v] = some x) : ∃ (a : Option Addr) (L C : Nat) (F : Nat → Int), v = .slice a L C ∧ L ≤ C ∧ C ≤ maxLen ∧ FacsIn w a L F := by
  rcases open_ints ht he hc h with ⟨hcs, _⟩ | ⟨a, len, cap, zs, hcs, _, hl, hm, hz, _, hcell, hwz⟩
  · exact ⟨none, 0, 0, fun _ => 0, by simpa using hcs, Nat.le_refl _, Nat.zero_le _, Or.inl rfl⟩
  · simp only [if_true] at hz
    refine ⟨some a, len, cap, fun j => zs.getD j 0, by simpa using hcs, hl, hm, ?_⟩
    by_cases h0 : len = 0
    · exact Or.inl h0
    · obtain ⟨b, off, rfl, hc'⟩ := ints_at hcell (by omega)
      refine Or.inr ⟨b, off, rfl, cell_lt (hc' 0 (by omega)), fun j hj => ⟨hc' j (by omega), ?_⟩⟩
      have hj' : j < zs.length := by omega
      have e : zs.getD j 0 = zs[j] := by simp [List.getD, hj']
      show 0 ≤ zs.getD j 0 ∧ zs.getD j 0 ≤ 18446744073709551615
      rw [e]
      exact bounds_u64 (hwz _ (List.getElem_mem hj'))

theorem open_rows {t e u s : TypeId} {f0 f1 f2 : Field} (ht : P.underlying t = some (.slice e)) (he : P.underlying e = some (.struct #[f0, f1, f2])) (hu : P.underlying u = some (.int .u64)) (hs : P.underlying s = some (.slice u))
    (o0 : f0.offset = 0) (o1 : f1.offset = 1) (o2 : f2.offset = 2) (t0 : f0.type = u) (t1 : f1.type = u) (t2 : f2.type = s) (ce : P.cellsOf e = 3) (cu : P.cellsOf u = 1) (cs : P.cellsOf s = 1)
    {a : Option Addr} {n cap : Nat} {d : DataW H} {p : List MemPlace} (h : DataW.Trod enc P w 0 (fun _ => true) true t (.slice a n cap) d p) :
    n ≤ cap ∧ ∃ (N A : Nat → Int) (FA : Nat → Option Addr) (L C : Nat → Nat) (F : Nat → Nat → Int), RowsIn w a n N A FA L C F := by
  obtain ⟨fuel, hf⟩ := h
  rcases open_slice ht hf with ⟨hcs, _⟩ | ⟨a', len, cap', m, k, D, Pl, hcs, _, hl, hm, hmm, _, hx⟩
  · simp [Value.cells] at hcs
    obtain ⟨rfl, rfl, rfl⟩ := hcs
    exact ⟨Nat.le_refl _, fun _ => 0, fun _ => 0, fun _ => none, fun _ => 0, fun _ => 0, fun _ _ => 0, Or.inl rfl⟩
  simp [Value.cells] at hcs
  obtain ⟨rfl, rfl, rfl⟩ := hcs
  simp only [if_true] at hmm
  subst hmm
  refine ⟨hl, ?_⟩
  by_cases h0 : n = 0
  · exact ⟨fun _ => 0, fun _ => 0, fun _ => none, fun _ => 0, fun _ => 0, fun _ _ => 0, Or.inl h0⟩
  rw [ce] at hx
  -- the address is a plain one
  obtain ⟨b, off, spot⟩ := a'
  have hspot : spot = none := by
    obtain ⟨cs0, hc0, _⟩ := hx 0 (by omega)
    obtain ⟨_, hlen, hcell⟩ := World.cells?_some hc0
    have g := hcell 0 (by omega)
    have : ∃ v, cs0[0]? = some v := ⟨cs0[0], by simp⟩
    obtain ⟨v, hv⟩ := this
    rw [hv] at g
    simpa [Addr.add] using World.cell?_spot g
  subst hspot
  have each : ∀ i, i < m → ∃ y : Int × Int × Option Addr × Nat × Nat × (Nat → Int), RowAt w b (off + i * 3) y.1 y.2.1 y.2.2.1 y.2.2.2.1 y.2.2.2.2.1 y.2.2.2.2.2 := by
    intro i hi
    obtain ⟨cs', h1, h2⟩ := hx i hi
    obtain ⟨_, hlen, hcell⟩ := World.cells?_some h1
    obtain ⟨y0, y1, y2, k', _, _, g0, g1, g2⟩ := trod_struct3 he h2
    match cs', hlen with
    | [v0, v1, v2], _ =>
      simp [o0, o1, o2, t0, t1, t2, cu, cs] at g0 g1 g2
      obtain ⟨x0, e0, _, w0⟩ := DataW.trod_int hu g0
      obtain ⟨x1, e1, _, w1⟩ := DataW.trod_int hu g1
      obtain ⟨fa, L, C, F, e2, hL, hC, hF⟩ := open_facs hs hu cu g2
      simp at e0 e1
      subst e0 e1 e2
      have c0 := hcell 0 (by omega)
      have c1 := hcell 1 (by omega)
      have c2 := hcell 2 (by omega)
      simp only [add_plain] at c0 c1 c2
      have b0 := bounds_u64 w0
      have b1 := bounds_u64 w1
      exact ⟨(x0, x1, fa, L, C, F), by simpa using c0, by simpa using c1, by simpa using c2, b0.1, b0.2, b1.1, b1.2, hL, hC, hF⟩
  obtain ⟨y, hy⟩ := choose_lt each
  refine ⟨fun i => (y i).1, fun i => (y i).2.1, fun i => (y i).2.2.1, fun i => (y i).2.2.2.1, fun i => (y i).2.2.2.2.1, fun i => (y i).2.2.2.2.2, Or.inr ⟨b, off, rfl, cell_lt (hy 0 (by omega)).c0, fun i hi => hy i (by omega)⟩⟩

end
end Go.Proofs.YtlnmjbbpenhdbaaGreat

namespace Go.Proofs.YtlnmjbbpenhdbaaGreat
open Go.RowKit Go.ChangeShapes Go.WideShapes Go.Deep

section
variable {H : Type} {enc : TypeId × Value → H} {P : Program} {w : World}

theorem trod_struct5 {t : TypeId} {f0 f1 f2 f3 f4 : Field} {fuel : Nat} {cs : List Value} {x : DataW H × List MemPlace} (ht : P.underlying t = some (.struct #[f0, f1, f2, f3, f4])) (h : DataW.trod enc P w 0 (fun _ => true) true fuel t cs = some x) :
    ∃ y0 y1 y2 y3 y4 n, cs.length = P.cellsOf t ∧ DataW.trod enc P w 0 (fun _ => true) true n f0.type ((cs.drop f0.offset).take (P.cellsOf f0.type)) = some y0 ∧
      DataW.trod enc P w 0 (fun _ => true) true n f1.type ((cs.drop f1.offset).take (P.cellsOf f1.type)) = some y1 ∧ DataW.trod enc P w 0 (fun _ => true) true n f2.type ((cs.drop f2.offset).take (P.cellsOf f2.type)) = some y2 ∧
      DataW.trod enc P w 0 (fun _ => true) true n f3.type ((cs.drop f3.offset).take (P.cellsOf f3.type)) = some y3 ∧ DataW.trod enc P w 0 (fun _ => true) true n f4.type ((cs.drop f4.offset).take (P.cellsOf f4.type)) = some y4 := by
  obtain ⟨xs, n, _, rfl, hl, hlen, hf⟩ := DataW.trod_struct ht h
  match xs, hlen with
  | [y0, y1, y2, y3, y4], _ => exact ⟨y0, y1, y2, y3, y4, n, hl, by simpa using hf 0 f0 rfl, by simpa using hf 1 f1 rfl, by simpa using hf 2 f2 rfl, by simpa using hf 3 f3 rfl, by simpa using hf 4 f4 rfl⟩

theorem open_params {t u r e s : TypeId} {f0 f1 f2 f3 f4 g0 g1 g2 : Field} (ht : P.underlying t = some (.struct #[f0, f1, f2, f3, f4])) (hu : P.underlying u = some (.int .u64)) (hr : P.underlying r = some (.slice e))
    (he : P.underlying e = some (.struct #[g0, g1, g2])) (hs : P.underlying s = some (.slice u)) (o0 : f0.offset = 0) (o1 : f1.offset = 1) (o2 : f2.offset = 2) (o3 : f3.offset = 3) (o4 : f4.offset = 4)
    (t0 : f0.type = u) (t1 : f1.type = u) (t2 : f2.type = u) (t3 : f3.type = u) (t4 : f4.type = r) (p0 : g0.offset = 0) (p1 : g1.offset = 1) (p2 : g2.offset = 2) (s0 : g0.type = u) (s1 : g1.type = u) (s2 : g2.type = s)
    (ct : P.cellsOf t = 5) (ce : P.cellsOf e = 3) (cu : P.cellsOf u = 1) (cr : P.cellsOf r = 1) (cs : P.cellsOf s = 1) {v : Value} {d : DataW H} {p : List MemPlace} (h : DataW.Trod enc P w 0 (fun _ => true) true t v d p) :
    ∃ (p q g k : Int) (a : Option Addr) (n cap : Nat), v = gv p q g k a n cap ∧ Four p q g k ∧ n ≤ cap ∧ ∃ (N A : Nat → Int) (FA : Nat → Option Addr) (L C : Nat → Nat) (F : Nat → Nat → Int), RowsIn w a n N A FA L C F := by
  obtain ⟨fuel, hf⟩ := h
  obtain ⟨y0, y1, y2, y3, y4, m, hl, k0, k1, k2, k3, k4⟩ := trod_struct5 ht hf
  rw [ct] at hl
  cases v with
  | agg c =>
    obtain ⟨l⟩ := c
    match l, hl with
    | [v0, v1, v2, v3, v4], _ =>
      simp [Value.cells, o0, o1, o2, o3, o4, t0, t1, t2, t3, t4, cu, cr] at k0 k1 k2 k3 k4
      obtain ⟨x0, e0, _, w0⟩ := DataW.trod_int hu k0
      obtain ⟨x1, e1, _, w1⟩ := DataW.trod_int hu k1
      obtain ⟨x2, e2, _, w2⟩ := DataW.trod_int hu k2
      obtain ⟨x3, e3, _, w3⟩ := DataW.trod_int hu k3
      simp at e0 e1 e2 e3
      subst e0 e1 e2 e3
      have hv4 : ∃ a n cap, v4 = .slice a n cap := by
        rcases open_slice hr k4 with ⟨hcs, _⟩ | ⟨a', len, cap', _, _, _, _, hcs, _⟩
        · exact ⟨none, 0, 0, by simpa using hcs⟩
        · exact ⟨some a', len, cap', by simpa using hcs⟩
      obtain ⟨a, n, cap, rfl⟩ := hv4
      have ko : DataW.Trod enc P w 0 (fun _ => true) true r (.slice a n cap) y4.1 y4.2 := ⟨m, by simpa [Value.cells] using k4⟩
      obtain ⟨hcap, N, A, FA, L, C, F, hin⟩ := open_rows hr he hu hs p0 p1 p2 s0 s1 s2 ce cu cs ko
      have b0 := bounds_u64 w0
      have b1 := bounds_u64 w1
      have b2 := bounds_u64 w2
      have b3 := bounds_u64 w3
      exact ⟨x0, x1, x2, x3, a, n, cap, rfl, ⟨b0.1, b0.2, b1.1, b1.2, b2.1, b2.2, b3.1, b3.2⟩, hcap, N, A, FA, L, C, F, hin⟩
  | _ => simp [Value.cells] at hl

end
end Go.Proofs.YtlnmjbbpenhdbaaGreat

namespace Go.Proofs.YtlnmjbbpenhdbaaGreat
open Go.RowKit Go.ChangeShapes Go.WideShapes Go.Deep

section
variable {H : Type} {enc : TypeId × Value → H} {P : Program} {w : World}

/-- An array of k elements of one cell each. -/
theorem open_cells {t e : TypeId} {k : Nat} (ht : P.underlying t = some (.array k e)) (hc : P.cellsOf e = 1) (hk : P.cellsOf t = k) (hk2 : 2 ≤ k) {v : Value} {d : DataW H} {p : List MemPlace} (h : DataW.Trod enc P w 0 (fun _ => true) true t v d p) :
    ∃ (l : List Value) (m : Nat), v = .agg l.toArray ∧ l.length = k ∧ ∀ i (hi : i < l.length), ∃ y, DataW.trod enc P w 0 (fun _ => true) true m e [l[i]] = some y := by
  obtain ⟨fuel, hf⟩ := h
  obtain ⟨xs, m, _, _, hl, hlx, hi⟩ := DataW.trod_array ht hf
  rw [hk] at hl
  rw [hc] at hi
  cases v with
  | agg cs =>
    obtain ⟨l⟩ := cs
    refine ⟨l, m, rfl, by simpa [Value.cells] using hl, fun i hi' => ?_⟩
    have hlen : l.length = k := by simpa [Value.cells] using hl
    have g := hi i (by omega)
    rw [List.getElem?_eq_getElem (show i < xs.length by omega)] at g
    refine ⟨_, Eq.trans ?_ g⟩
    congr 1
    simp only [Value.cells, Nat.mul_one]
    rw [List.drop_eq_getElem_cons hi', List.take_succ_cons, List.take_zero]
  | _ => simp [Value.cells] at hl; omega

theorem open_u64 {e : TypeId} (he : P.underlying e = some (.int .u64)) {m : Nat} {c : Value} {y : DataW H × List MemPlace} (h : DataW.trod enc P w 0 (fun _ => true) true m e [c] = some y) : ∃ x : Int, c = .int .u64 x ∧ U64 x := by
  obtain ⟨x, hx, _, hw⟩ := DataW.trod_int he h
  simp at hx
  exact ⟨x, hx, (bounds_u64 hw).1, (bounds_u64 hw).2⟩

theorem open_u64s4 {t e : TypeId} (ht : P.underlying t = some (.array 4 e)) (he : P.underlying e = some (.int .u64)) (hc : P.cellsOf e = 1) (hk : P.cellsOf t = 4) {v : Value} {d : DataW H} {p : List MemPlace} (h : DataW.Trod enc P w 0 (fun _ => true) true t v d p) :
    ∃ x y z u : Int, v = .agg #[.int .u64 x, .int .u64 y, .int .u64 z, .int .u64 u] ∧ U64 x ∧ U64 y ∧ U64 z ∧ U64 u := by
  obtain ⟨l, m, rfl, hl, hi⟩ := open_cells ht hc hk (by omega) h
  match l, hl with
  | [a, b, c, d'], _ =>
    obtain ⟨_, h0⟩ := hi 0 (by simp)
    obtain ⟨_, h1⟩ := hi 1 (by simp)
    obtain ⟨_, h2⟩ := hi 2 (by simp)
    obtain ⟨_, h3⟩ := hi 3 (by simp)
    obtain ⟨x, rfl, bx⟩ := open_u64 he h0
    obtain ⟨y, rfl, by_⟩ := open_u64 he h1
    obtain ⟨z, rfl, bz⟩ := open_u64 he h2
    obtain ⟨u, rfl, bu⟩ := open_u64 he h3
    exact ⟨x, y, z, u, rfl, bx, by_, bz, bu⟩
/-- A pair's cells. -/
theorem pair_cells {t u : TypeId} {f0 f1 : Field} (ht : P.underlying t = some (.struct #[f0, f1])) (hu : P.underlying u = some (.int .u64)) (o0 : f0.offset = 0) (o1 : f1.offset = 1) (t0 : f0.type = u) (t1 : f1.type = u) (ct : P.cellsOf t = 2) (cu : P.cellsOf u = 1) {fuel : Nat} {cs : List Value} {x : DataW H × List MemPlace} (h : DataW.trod enc P w 0 (fun _ => true) true fuel t cs = some x) :
    ∃ x y : Int, cs = [.int .u64 x, .int .u64 y] ∧ U64 x ∧ U64 y := by
  obtain ⟨xs, n, _, rfl, hl, hlen, hf⟩ := DataW.trod_struct ht h
  rw [ct] at hl
  have g0 := hf 0 f0 rfl
  have g1 := hf 1 f1 rfl
  have hlen : xs.length = 2 := hlen
  rw [List.getElem?_eq_getElem (by omega)] at g0 g1
  match cs, hl with
  | [a, b], _ =>
    simp [o0, o1, t0, t1, cu] at g0 g1
    obtain ⟨x, rfl, bx⟩ := open_u64 hu g0
    obtain ⟨y, rfl, by_⟩ := open_u64 hu g1
    exact ⟨x, y, rfl, bx, by_⟩
end
end Go.Proofs.YtlnmjbbpenhdbaaGreat

namespace Go.Proofs.YtlnmjbbpenhdbaaGreat
open Go.RowKit Go.ChangeShapes Go.WideShapes Go.Deep

section
variable {H : Type} {enc : TypeId × Value → H} {P : Program} {w : World}

theorem open_str {st : TypeId} (hst : P.underlying st = some .string) {m : Nat} {c : Value} {y : DataW H × List MemPlace} (h : DataW.trod enc P w 0 (fun _ => true) true m st [c] = some y) : ∃ lab : List Int, c = .string (strOfNums lab) ∧ Bts lab := by
  obtain ⟨s, hs, _, _⟩ := DataW.trod_string hst h
  simp at hs
  subst hs
  exact ⟨numsOf s, by rw [numsOf_str], numsOf_bd s⟩

theorem arr3_cells {t e : TypeId} (ht : P.underlying t = some (.array 3 e)) (he : P.underlying e = some (.int .u64)) (hc : P.cellsOf e = 1) (hk : P.cellsOf t = 3) {fuel : Nat} {cs : List Value} {x : DataW H × List MemPlace} (h : DataW.trod enc P w 0 (fun _ => true) true fuel t cs = some x) :
    ∃ x y z : Int, cs = [.int .u64 x, .int .u64 y, .int .u64 z] ∧ U64 x ∧ U64 y ∧ U64 z := by
  obtain ⟨xs, m, _, _, hl, hlx, hi⟩ := DataW.trod_array ht h
  rw [hk] at hl
  have g0 := hi 0 (by omega)
  have g1 := hi 1 (by omega)
  have g2 := hi 2 (by omega)
  rw [hc, List.getElem?_eq_getElem (by omega)] at g0 g1 g2
  match cs, hl with
  | [a, b, c], _ =>
    simp at g0 g1 g2
    obtain ⟨x, rfl, bx⟩ := open_u64 he g0
    obtain ⟨y, rfl, by_⟩ := open_u64 he g1
    obtain ⟨z, rfl, bz⟩ := open_u64 he g2
    exact ⟨x, y, z, rfl, bx, by_, bz⟩
end
end Go.Proofs.YtlnmjbbpenhdbaaGreat

namespace Go.Proofs.YtlnmjbbpenhdbaaGreat
set_option linter.unusedVariables false
open Go.RowKit Go.ChangeShapes Go.WideShapes Go.Deep

section
variable {H : Type} {enc : TypeId × Value → H} {P : Program} {w : World}

/-- A list of elements of sz whole numbers each. -/
theorem open_nums8 {t e : TypeId} {sz : Nat} (mk : Int → Value) (Bd : Int → Prop) (hsz : 0 < sz) (ht : P.underlying t = some (.slice e)) (ce : P.cellsOf e = sz)
    (dec : ∀ (fuel : Nat) (cs : List Value) (x : DataW H × List MemPlace), DataW.trod enc P w 0 (fun _ => true) true fuel e cs = some x → ∃ F : Nat → Int, ∀ k, k < sz → cs[k]? = some (mk (F k)) ∧ Bd (F k))
    {fuel : Nat} {v : Value} {x : DataW H × List MemPlace} (h : DataW.trod enc P w 0 (fun _ => true) true fuel t [v] = some x) :
    ∃ (a : Option Addr) (n cap : Nat) (F : Nat → Nat → Int), v = .slice a n cap ∧ n ≤ cap ∧ cap ≤ 9223372036854775807 ∧ (n = 0 ∨ ∃ b off, a = some ⟨b, off, none⟩ ∧ b < w.heap.size ∧ ∀ j, j < n → ∀ k, k < sz → w.cell? ⟨b, off + j * sz + k, none⟩ = some (mk (F j k)) ∧ Bd (F j k)) := by
  rcases open_slice ht h with ⟨hcs, _⟩ | ⟨a', len, cap', m, k, D, Pl, hcs, _, hl, hm, hmm, _, hx⟩
  · exact ⟨none, 0, 0, fun _ _ => 0, by simpa using hcs, Nat.le_refl _, Nat.zero_le _, Or.inl rfl⟩
  simp only [if_true] at hmm
  subst hmm
  unfold maxLen at hm
  have hv : v = .slice (some a') len m := by simpa using hcs
  by_cases h0 : len = 0
  · exact ⟨some a', len, m, fun _ _ => 0, hv, hl, by omega, Or.inl h0⟩
  rw [ce] at hx
  obtain ⟨b, off, spot⟩ := a'
  have hspot : spot = none := by
    obtain ⟨cs0, hc0, _⟩ := hx 0 (by omega)
    obtain ⟨_, hlen, hcell⟩ := World.cells?_some hc0
    have g := hcell 0 (by omega)
    have : ∃ v, cs0[0]? = some v := ⟨cs0[0], by simp⟩
    obtain ⟨v, hv⟩ := this
    rw [hv] at g
    simpa [Addr.add] using World.cell?_spot g
  subst hspot
  have each : ∀ i, i < m → ∃ y : Nat → Int, ∀ k, k < sz → w.cell? ⟨b, off + i * sz + k, none⟩ = some (mk (y k)) ∧ Bd (y k) := by
    intro i hi
    obtain ⟨cs', h1, h2⟩ := hx i hi
    obtain ⟨_, hlen, hcell⟩ := World.cells?_some h1
    obtain ⟨F, hF⟩ := dec _ _ _ h2
    refine ⟨F, fun k hk => ⟨?_, (hF k hk).2⟩⟩
    have c0 := hcell k (by omega)
    simp only [add_plain] at c0
    rw [c0]
    exact (hF k hk).1
  obtain ⟨y, hy⟩ := choose_lt each
  exact ⟨some ⟨b, off, none⟩, len, m, y, hv, hl, by omega, Or.inr ⟨b, off, rfl, cell_lt (hy 0 (by omega) 0 hsz).1, fun i hi => hy i (by omega)⟩⟩

theorem open_boxes8 {t e p u : TypeId} {f0 f1 : Field} (ht : P.underlying t = some (.slice e)) (he : P.underlying e = some (.array 3 p)) (hp : P.underlying p = some (.struct #[f0, f1])) (hu : P.underlying u = some (.int .u64)) (o0 : f0.offset = 0) (o1 : f1.offset = 1) (t0 : f0.type = u) (t1 : f1.type = u) (ce : P.cellsOf e = 6) (cp : P.cellsOf p = 2) (cu : P.cellsOf u = 1)
    {fuel : Nat} {v : Value} {x : DataW H × List MemPlace} (h : DataW.trod enc P w 0 (fun _ => true) true fuel t [v] = some x) :
    ∃ (a : Option Addr) (n cap : Nat) (C : Nat → Nat → Int), v = .slice a n cap ∧ n ≤ cap ∧ cap ≤ 9223372036854775807 ∧ BoxsIn w a n C :=
  open_nums8 (.int .u64) U64 (by omega) ht ce (fun fuel cs x h => by
    obtain ⟨xs, n, _, _, hl, hlx, hi⟩ := DataW.trod_array he h
    rw [ce] at hl
    have g0 := hi 0 (by omega)
    have g1 := hi 1 (by omega)
    have g2 := hi 2 (by omega)
    rw [cp, List.getElem?_eq_getElem (by omega)] at g0 g1 g2
    match cs, hl with
    | [a, b, c, d', e', f'], _ =>
      simp at g0 g1 g2
      obtain ⟨x0, y0, e0, a0, b0⟩ := pair_cells hp hu o0 o1 t0 t1 cp cu g0
      obtain ⟨x1, y1, e1, a1, b1⟩ := pair_cells hp hu o0 o1 t0 t1 cp cu g1
      obtain ⟨x2, y2, e2, a2, b2⟩ := pair_cells hp hu o0 o1 t0 t1 cp cu g2
      simp at e0 e1 e2
      obtain ⟨rfl, rfl⟩ := e0
      obtain ⟨rfl, rfl⟩ := e1
      obtain ⟨rfl, rfl⟩ := e2
      refine ⟨fun k => [x0, y0, x1, y1, x2, y2].getD k 0, fun k hk => ?_⟩
      match k, hk with
      | 0, _ => exact ⟨rfl, a0⟩
      | 1, _ => exact ⟨rfl, b0⟩
      | 2, _ => exact ⟨rfl, a1⟩
      | 3, _ => exact ⟨rfl, b1⟩
      | 4, _ => exact ⟨rfl, a2⟩
      | 5, _ => exact ⟨rfl, b2⟩) h
theorem open_rhos8 {t e u : TypeId} (ht : P.underlying t = some (.slice e)) (he : P.underlying e = some (.array 3 u)) (hu : P.underlying u = some (.int .u64)) (ce : P.cellsOf e = 3) (cu : P.cellsOf u = 1)
    {fuel : Nat} {v : Value} {x : DataW H × List MemPlace} (h : DataW.trod enc P w 0 (fun _ => true) true fuel t [v] = some x) :
    ∃ (a : Option Addr) (n cap : Nat) (R : Nat → Nat → Int), v = .slice a n cap ∧ n ≤ cap ∧ cap ≤ 9223372036854775807 ∧ RhoIn w a n R :=
  open_nums8 (.int .u64) U64 (by omega) ht ce (fun fuel cs x h => by
    obtain ⟨a, b, c, rfl, h0, h1, h2⟩ := arr3_cells he hu cu ce h
    refine ⟨fun k => [a, b, c].getD k 0, fun k hk => ?_⟩
    match k, hk with
    | 0, _ => exact ⟨rfl, h0⟩
    | 1, _ => exact ⟨rfl, h1⟩
    | 2, _ => exact ⟨rfl, h2⟩) h
theorem open_order8 {t e : TypeId} (ht : P.underlying t = some (.slice e)) (he : P.underlying e = some (.int .i64)) (ce : P.cellsOf e = 1)
    {fuel : Nat} {v : Value} {x : DataW H × List MemPlace} (h : DataW.trod enc P w 0 (fun _ => true) true fuel t [v] = some x) :
    ∃ (a : Option Addr) (n cap : Nat) (O : Nat → Int), v = .slice a n cap ∧ n ≤ cap ∧ cap ≤ 9223372036854775807 ∧ IntsIn w a n O := by
  obtain ⟨a, n, cap, F, e1, q1, q2, hF⟩ := open_nums8 (.int .i64) (fun x => -9223372036854775808 ≤ x ∧ x ≤ 9223372036854775807) (by omega) ht ce (fun fuel cs x h => by
    obtain ⟨x, hx, _, hw⟩ := DataW.trod_int he h
    subst hx
    refine ⟨fun _ => x, fun k hk => ?_⟩
    have : k = 0 := by omega
    subst this
    exact ⟨rfl, (bounds_i64 hw).1, (bounds_i64 hw).2⟩) h
  refine ⟨a, n, cap, fun j => F j 0, e1, q1, q2, ?_⟩
  rcases hF with h0 | ⟨b, off, ha, hb, hc⟩
  · exact Or.inl h0
  · exact Or.inr ⟨b, off, ha, hb, fun j hj => by have := hc j hj 0 (by omega); rwa [Nat.mul_one, Nat.add_zero] at this⟩
theorem open_nats8 {t u : TypeId} (ht : P.underlying t = some (.slice u)) (hu : P.underlying u = some (.int .u64)) (cu : P.cellsOf u = 1) {fuel : Nat} {v : Value} {x : DataW H × List MemPlace} (h : DataW.trod enc P w 0 (fun _ => true) true fuel t [v] = some x) :
    ∃ (a : Option Addr) (n cap : Nat) (F : Nat → Int), v = .slice a n cap ∧ n ≤ cap ∧ cap ≤ 9223372036854775807 ∧ FacsIn w a n F := by
  obtain ⟨a, n, cap, F, e, q1, q2, hF⟩ := open_facs ht hu cu h
  unfold maxLen at q2
  exact ⟨a, n, cap, F, e, q1, by omega, hF⟩
/-- What is known of draws that came in. -/
def DrawsIn (w : World) (bρ : Option Addr) (nρ cρ : Nat) (Rh : Nat → Nat → Int) (bR : Option Addr) (nR cR : Nat) (R : Nat → Int) (bS : Option Addr) (nS cS : Nat) (S : Nat → Int) (bT : Option Addr) (nT cT : Nat) (T : Nat → Int) (bD : Option Addr) (nD cD : Nat) (D : Nat → Int) : Prop :=
  RhoIn w bρ nρ Rh ∧ FacsIn w bR nR R ∧ FacsIn w bS nS S ∧ (nT ≤ cT ∧ cT ≤ 9223372036854775807) ∧ FacsIn w bT nT T ∧ (nD ≤ cD ∧ cD ≤ 9223372036854775807) ∧ FacsIn w bD nD D
theorem draws_cells {t r ar s u : TypeId} {f0 f1 f2 f3 f4 : Field} (ht : P.underlying t = some (.struct #[f0, f1, f2, f3, f4])) (hr : P.underlying r = some (.slice ar)) (har : P.underlying ar = some (.array 3 u)) (hs : P.underlying s = some (.slice u)) (hu : P.underlying u = some (.int .u64)) (o0 : f0.offset = 0) (o1 : f1.offset = 1) (o2 : f2.offset = 2) (o3 : f3.offset = 3) (o4 : f4.offset = 4) (t0 : f0.type = r) (t1 : f1.type = s) (t2 : f2.type = s) (t3 : f3.type = s) (t4 : f4.type = s) (ct : P.cellsOf t = 5) (cr : P.cellsOf r = 1) (car : P.cellsOf ar = 3) (cs1 : P.cellsOf s = 1) (cu : P.cellsOf u = 1) {fuel : Nat} {cs : List Value} {x : DataW H × List MemPlace} (h : DataW.trod enc P w 0 (fun _ => true) true fuel t cs = some x) :
    ∃ bρ nρ cρ Rh bR nR cR R bS nS cS S bT nT cT T bD nD cD D, cs = [.slice bρ nρ cρ, .slice bR nR cR, .slice bS nS cS, .slice bT nT cT, .slice bD nD cD] ∧ DrawsIn w bρ nρ cρ Rh bR nR cR R bS nS cS S bT nT cT T bD nD cD D := by
  obtain ⟨xs, n, _, _, hl, hlen, hf⟩ := DataW.trod_struct ht h
  rw [ct] at hl
  have g0 := hf 0 f0 rfl
  have g1 := hf 1 f1 rfl
  have g2 := hf 2 f2 rfl
  have g3 := hf 3 f3 rfl
  have g4 := hf 4 f4 rfl
  have hlen : xs.length = 5 := hlen
  rw [List.getElem?_eq_getElem (by omega)] at g0 g1 g2 g3 g4
  match cs, hl with
  | [a, b, c, d, e], _ =>
    simp [o0, o1, o2, o3, o4, t0, t1, t2, t3, t4, cr, cs1] at g0 g1 g2 g3 g4
    obtain ⟨bρ, nρ, cρ, Rh, rfl, _, _, h0⟩ := open_rhos8 hr har hu car cu g0
    obtain ⟨bR, nR, cR, R, rfl, _, _, h1⟩ := open_nats8 hs hu cu g1
    obtain ⟨bS, nS, cS, S, rfl, _, _, h2⟩ := open_nats8 hs hu cu g2
    obtain ⟨bT, nT, cT, T, rfl, p3, q3, h3⟩ := open_nats8 hs hu cu g3
    obtain ⟨bD, nD, cD, D, rfl, p4, q4, h4⟩ := open_nats8 hs hu cu g4
    exact ⟨bρ, nρ, cρ, Rh, bR, nR, cR, R, bS, nS, cS, S, bT, nT, cT, T, bD, nD, cD, D, rfl, h0, h1, h2, ⟨p3, q3⟩, h3, ⟨p4, q4⟩, h4⟩
theorem open_job8 {t st bx e p o ii dt r ar s u : TypeId} {f0 f1 f2 f3 f4 g0 g1 d0 d1 d2 d3 d4 : Field} (ht : P.underlying t = some (.struct #[f0, f1, f2, f3, f4])) (hst : P.underlying st = some .string) (hbx : P.underlying bx = some (.slice e)) (he : P.underlying e = some (.array 3 p)) (hp : P.underlying p = some (.struct #[g0, g1])) (ho : P.underlying o = some (.slice ii)) (hi : P.underlying ii = some (.int .i64)) (hd : P.underlying dt = some (.struct #[d0, d1, d2, d3, d4])) (hr : P.underlying r = some (.slice ar)) (har : P.underlying ar = some (.array 3 u)) (hs : P.underlying s = some (.slice u)) (hu : P.underlying u = some (.int .u64))
    (fo : f0.offset = 0 ∧ f1.offset = 1 ∧ f2.offset = 2 ∧ f3.offset = 3 ∧ f4.offset = 4) (ft : f0.type = st ∧ f1.type = u ∧ f2.type = bx ∧ f3.type = o ∧ f4.type = dt) (go : g0.offset = 0 ∧ g1.offset = 1 ∧ g0.type = u ∧ g1.type = u) (dof : d0.offset = 0 ∧ d1.offset = 1 ∧ d2.offset = 2 ∧ d3.offset = 3 ∧ d4.offset = 4) (dty : d0.type = r ∧ d1.type = s ∧ d2.type = s ∧ d3.type = s ∧ d4.type = s)
    (cc : P.cellsOf t = 9 ∧ P.cellsOf st = 1 ∧ P.cellsOf bx = 1 ∧ P.cellsOf e = 6 ∧ P.cellsOf p = 2 ∧ P.cellsOf o = 1 ∧ P.cellsOf ii = 1 ∧ P.cellsOf dt = 5 ∧ P.cellsOf r = 1 ∧ P.cellsOf ar = 3 ∧ P.cellsOf s = 1 ∧ P.cellsOf u = 1) {v : Value} {d : DataW H} {pl : List MemPlace} (h : DataW.Trod enc P w 0 (fun _ => true) true t v d pl) :
    ∃ (label : List Int) (y : Int) (bi : Option Addr) (l ci : Nat) (C : Nat → Nat → Int) (bo : Option Addr) (no co : Nat) (O : Nat → Int) (bρ : Option Addr) (nρ cρ : Nat) (Rh : Nat → Nat → Int) (bR : Option Addr) (nR cR : Nat) (R : Nat → Int) (bS : Option Addr) (nS cS : Nat) (S : Nat → Int) (bT : Option Addr) (nT cT : Nat) (T : Nat → Int) (bD : Option Addr) (nD cD : Nat) (D : Nat → Int),
      v = jv label y bi l ci bo no co bρ nρ cρ bR nR cR bS nS cS bT nT cT bD nD cD ∧ Bts label ∧ U64 y ∧ BoxsIn w bi l C ∧ IntsIn w bo no O ∧ DrawsIn w bρ nρ cρ Rh bR nR cR R bS nS cS S bT nT cT T bD nD cD D ∧ (l ≤ ci ∧ ci ≤ 9223372036854775807) ∧ (no ≤ co ∧ co ≤ 9223372036854775807) := by
  obtain ⟨m, hm⟩ := h
  obtain ⟨xs, n, _, _, hl, hlen, hf⟩ := DataW.trod_struct ht hm
  rw [cc.1] at hl
  have k0 := hf 0 f0 rfl
  have k1 := hf 1 f1 rfl
  have k2 := hf 2 f2 rfl
  have k3 := hf 3 f3 rfl
  have k4 := hf 4 f4 rfl
  have hlen : xs.length = 5 := hlen
  rw [List.getElem?_eq_getElem (by omega)] at k0 k1 k2 k3 k4
  obtain ⟨o0, o1, o2, o3, o4⟩ := fo
  obtain ⟨t0, t1, t2, t3, t4⟩ := ft
  obtain ⟨_, cst, cbx, ce, cp, co, ci, cdt, cr, car, cs, cu⟩ := cc
  cases v with
  | agg c =>
    obtain ⟨lst⟩ := c
    match lst, hl with
    | [a, b, c, d, e1, e2, e3, e4, e5], _ =>
      simp [Value.cells, o0, o1, o2, o3, o4, t0, t1, t2, t3, t4, cst, cbx, co, cdt, cu] at k0 k1 k2 k3 k4
      obtain ⟨lab, rfl, hb⟩ := open_str hst k0
      obtain ⟨y, rfl, by_⟩ := open_u64 hu k1
      obtain ⟨bi, l, ci2, C, rfl, p2, q2, h2⟩ := open_boxes8 hbx he hp hu go.1 go.2.1 go.2.2.1 go.2.2.2 ce cp cu k2
      obtain ⟨bo, no, co2, O, rfl, p3, q3, h3⟩ := open_order8 ho hi ci k3
      obtain ⟨bρ, nρ, cρ, Rh, bR, nR, cR, R, bS, nS, cS, S, bT, nT, cT, T, bD, nD, cD, D, ecs, hdr⟩ := draws_cells hd hr har hs hu dof.1 dof.2.1 dof.2.2.1 dof.2.2.2.1 dof.2.2.2.2 dty.1 dty.2.1 dty.2.2.1 dty.2.2.2.1 dty.2.2.2.2 cdt cr car cs cu k4
      simp at ecs
      obtain ⟨rfl, rfl, rfl, rfl, rfl⟩ := ecs
      exact ⟨lab, y, bi, l, ci2, C, bo, no, co2, O, bρ, nρ, cρ, Rh, bR, nR, cR, R, bS, nS, cS, S, bT, nT, cT, T, bD, nD, cD, D, rfl, hb, by_, h2, h3, hdr, ⟨p2, q2⟩, ⟨p3, q3⟩⟩
  | _ => simp [Value.cells] at hl
end
end Go.Proofs.YtlnmjbbpenhdbaaGreat
