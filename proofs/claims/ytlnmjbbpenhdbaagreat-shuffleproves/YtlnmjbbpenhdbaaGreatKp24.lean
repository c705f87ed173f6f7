/-
  What the proof needs, part 24.
-/
import Derived.Test.YtlnmjbbpenhdbaaGreatKp23
import Derived.Test.YtlnmjbbpenhdbaaGreatKp08
import Derived.Laws.BitsAllLaws
namespace Go.Proofs.YtlnmjbbpenhdbaaGreat
set_option linter.unusedSimpArgs false
set_option linter.unusedVariables false
set_option maxRecDepth 100000
set_option maxHeartbeats 32000000
section
open Go.RowKit
theorem load_five {P : Program} {W : World} {b : Nat} {p0 q0 r0 s0 u0 p q r s u : Value} {t ty : TypeId} {fs : Array Field} (h : W.heap[b]? = some (.cells #[p0, q0, r0, s0, u0] t (0, 0))) (hu : P.underlying ty = some (.struct fs)) (hi : (P.info? ty).map (·.size) = some 5) :
  (loadVar ty ⟨b, 0, none⟩).run P (((((W.setCell ⟨b, 0, none⟩ p).setCell ⟨b, 1, none⟩ q).setCell ⟨b, 2, none⟩ r).setCell ⟨b, 3, none⟩ s).setCell ⟨b, 4, none⟩ u) = .ok (.agg #[p, q, r, s, u]) (((((W.setCell ⟨b, 0, none⟩ p).setCell ⟨b, 1, none⟩ q).setCell ⟨b, 2, none⟩ r).setCell ⟨b, 3, none⟩ s).setCell ⟨b, 4, none⟩ u) :=
 run_loadVar_row _ b t ty #[p, q, r, s, u] (0, 0) _ (by
  have := set_row (set_row (set_row (set_row (set_row h 0 p) 1 q) 2 r) 3 s) 4 u
  simpa using this) hu rfl hi
theorem Old.five {a W : World} (h : Old a W) {b : Nat} (hb : a.heap.size <= b) (p q r s u : Value) : Old a (((((W.setCell ⟨b, 0, none⟩ p).setCell ⟨b, 1, none⟩ q).setCell ⟨b, 2, none⟩ r).setCell ⟨b, 3, none⟩ s).setCell ⟨b, 4, none⟩ u) :=
 ((((h.setCell (p := ⟨b, 0, none⟩) hb _).setCell (p := ⟨b, 1, none⟩) hb _).setCell (p := ⟨b, 2, none⟩) hb _).setCell (p := ⟨b, 3, none⟩) hb _).setCell (p := ⟨b, 4, none⟩) hb _
theorem spro_no (P Q G H : Int) (a : Option Addr) (m cap : Nat) (label : List Int) (y : Int) (bi : Option Addr) (l ci : Nat) (C : Nat -> Nat -> Int) (bo : Option Addr) (no co : Nat) (O : Nat -> Int) (bρ : Option Addr) (nρ cρ : Nat) (Rh : Nat -> Nat -> Int) (bR : Option Addr) (nR cR : Nat) (bS : Option Addr) (nS cS : Nat) (bT : Option Addr) (nT cT : Nat) (bD : Option Addr) (nD cD : Nat) (M : Nat -> Nat -> Int) (A B Pp : Nat -> Int) (nt : Nat) (K : Nat -> Int) (nz : Nat) (Zf : Nat -> Int) (w : World) (h4 : Four P Q G H) (hr : Righ P Q G) (hy : U64 y) (ml : l <= 80) (mo : no <= 80) (mρ : nρ <= 80) (hC : BoxsIn w bi l C) (hO : IntsIn w bo no O) (hρ : RhoIn w bρ nρ Rh) (hok : (mixB P Q y l C no O nρ && drwB l nR nS nT nD) = false) :
  Calls Tryz.prog 31 #[gv P Q G H a m cap, .string (strOfNums label), .int .u64 y, .slice bi l ci, .slice bo no co, dv bρ nρ cρ bR nR cR bS nS cS bT nT cT bD nD cD] w (GivS w (mixB P Q y l C no O nρ && drwB l nR nS nT nD) l M A B Pp nt K nz Zf) := by
 have HMx := fun wx (ho : Old w wx) => smix_any P Q G H a m cap y bi l ci C bo no co O bρ nρ cρ Rh wx h4 hr hy (by omega) (by omega) (by omega) (hC.old ho) (hO.old ho) (hρ.old ho)
 generalize mixC P Q G y C O Rh = M0 at HMx
 have HNo : Hid ((mixB P Q y l C no O nρ && drwB l nR nS nT nD) = false) := hok
 have HDr : Hid (mixB P Q y l C no O nρ = true -> ∀ wx, Calls Tryz.prog 88 #[dv bρ nρ cρ bR nR cR bS nS cS bT nT cT bD nD cD, .int .i64 (l : Int)] wx (Ret wx (.bool false))) := fun hm wx => by
  have h8 : l <= 8 := by
   unfold mixB at hm
   simp only [Bool.and_eq_true_iff, decide_eq_true_eq] at hm
   exact (batB_iff.1 hm.2.2.2.1).1.2
  have := sdrawn_any bρ nρ cρ bR nR cR bS nS cS bT nT cT bD nD cD l wx h8
  rw [hm, Bool.true_and] at hok
  rwa [hok] at this
 clear hC hO hρ h4 hr hy hok
 generalize mixB P Q y l C no O nρ = mb at *
 generalize drwB l nR nS nT nD = db at *
 have HZ := lain3 w (gc P Q G H a m cap) (dvc bρ nρ cρ bR nR cR bS nS cS bT nT cT bD nD cD) #[.slice none 0 0, .slice none 0 0, .slice none 0 0, .slice none 0 0, .slice none 0 0] 25 31 57
 have HG0 := fun w' ho => (HZ.then (W' := w') ho).row 0 (by simp)
 have HD0 := fun w' ho => (HZ.then (W' := w') ho).row 1 (by simp)
 have HS0 := fun w' ho => (HZ.then (W' := w') ho).row 2 (by simp)
 have HW0 : Hid (Old w (((w.alloc (.cells (gc P Q G H a m cap) 25)).alloc (.cells (dvc bρ nρ cρ bR nR cR bS nS cS bT nT cT bD nD cD) 31)).alloc (.cells #[.slice none 0 0, .slice none 0 0, .slice none 0 0, .slice none 0 0, .slice none 0 0] 57))) := HZ.old
 clear HZ
 go_enter Tryz.func31, Tryz.ntmps31
 go_upto_region 1 with fail
 generalize ((w.alloc (.cells (gc P Q G H a m cap) 25)).alloc (.cells (dvc bρ nρ cρ bR nR cR bS nS cS bT nT cT bD nD cD) 31)).alloc (.cells #[.slice none 0 0, .slice none 0 0, .slice none 0 0, .slice none 0 0, .slice none 0 0] 57) = W1 at *
 have HG : Hid (∀ wx, Old W1 wx -> wx.heap[w.heap.size]? = some (.cells (gc P Q G H a m cap) 25 (0, 0))) := HG0
 have HDd : Hid (∀ wx, Old W1 wx -> wx.heap[w.heap.size + 1]? = some (.cells (dvc bρ nρ cρ bR nR cR bS nS cS bT nT cT bD nD cD) 31 (0, 0))) := HD0
 have HSh : Hid (∀ wx, Old W1 wx -> wx.heap[w.heap.size + 1 + 1]? = some (.cells #[.slice none 0 0, .slice none 0 0, .slice none 0 0, .slice none 0 0, .slice none 0 0] 57 (0, 0))) := HS0
 clear HG0 HD0 HS0
 obtain ⟨gb, hgb⟩ : ∃ gb, gb = w.heap.size := ⟨_, rfl⟩
 rw [<- hgb] at HG HDd HSh
 rw [<- hgb]
 have HGs : Hid (w.heap.size <= gb + 1 + 1) := by unfold Hid; omega
 clear hgb
 have HGc : Hid (∀ wx, Old W1 wx -> wx.cell? ⟨gb, 0, none⟩ = some (.int .u64 P) /\ wx.cell? ⟨gb, 1, none⟩ = some (.int .u64 Q) /\ wx.cell? ⟨gb, 2, none⟩ = some (.int .u64 G) /\ wx.cell? ⟨gb, 3, none⟩ = some (.int .u64 H) /\ wx.cell? ⟨gb, 4, none⟩ = some (.slice a m cap)) := fun wx ho => ⟨cell_of_row _ _ 0 _ _ (0, 0) (HG.out _ ho), cell_of_row _ _ 1 _ _ (0, 0) (HG.out _ ho), cell_of_row _ _ 2 _ _ (0, 0) (HG.out _ ho), cell_of_row _ _ 3 _ _ (0, 0) (HG.out _ ho), cell_of_row _ _ 4 _ _ (0, 0) (HG.out _ ho)⟩
 have HDc : Hid (∀ wx, Old W1 wx -> wx.cell? ⟨gb + 1, 0, none⟩ = some (.slice bρ nρ cρ) /\ wx.cell? ⟨gb + 1, 1, none⟩ = some (.slice bR nR cR) /\ wx.cell? ⟨gb + 1, 2, none⟩ = some (.slice bS nS cS) /\ wx.cell? ⟨gb + 1, 3, none⟩ = some (.slice bT nT cT) /\ wx.cell? ⟨gb + 1, 4, none⟩ = some (.slice bD nD cD)) := fun wx ho => ⟨cell_of_row _ _ 0 _ _ (0, 0) (HDd.out _ ho), cell_of_row _ _ 1 _ _ (0, 0) (HDd.out _ ho), cell_of_row _ _ 2 _ _ (0, 0) (HDd.out _ ho), cell_of_row _ _ 3 _ _ (0, 0) (HDd.out _ ho), cell_of_row _ _ 4 _ _ (0, 0) (HDd.out _ ho)⟩
 have HSc : Hid (∀ wx, Old W1 wx -> (wx.cell? ⟨gb + 1 + 1, 0, none⟩ = some (.slice none 0 0) /\ wx.cell? ⟨gb + 1 + 1, 1, none⟩ = some (.slice none 0 0) /\ wx.cell? ⟨gb + 1 + 1, 2, none⟩ = some (.slice none 0 0) /\ wx.cell? ⟨gb + 1 + 1, 3, none⟩ = some (.slice none 0 0) /\ wx.cell? ⟨gb + 1 + 1, 4, none⟩ = some (.slice none 0 0)) /\ ∀ j, wx.frozen? ⟨gb + 1 + 1, j, none⟩ = false) := fun wx ho => ⟨⟨cell_of_row _ _ 0 _ _ (0, 0) (HSh.out _ ho), cell_of_row _ _ 1 _ _ (0, 0) (HSh.out _ ho), cell_of_row _ _ 2 _ _ (0, 0) (HSh.out _ ho), cell_of_row _ _ 3 _ _ (0, 0) (HSh.out _ ho), cell_of_row _ _ 4 _ _ (0, 0) (HSh.out _ ho)⟩, fun j => row_frozen (HSh.out _ ho) j⟩
 obtain ⟨g0, g1, g2, g3, g4⟩ := HGc.out _ (Old.refl _)
 obtain ⟨d0, d1, d2, d3, d4⟩ := HDc.out _ (Old.refl _)
 have HMh : Hid (∀ wx, Old w wx -> Calls Tryz.prog 15 #[gv P Q G H a m cap, .int .u64 y, .slice bi l ci, .slice bo no co, .slice bρ nρ cρ] wx (GivB wx mb l M0)) := HMx
 clear HMx
 cases mb with
 | false =>
  go_upto_region 2 with (go_at_call 15; refine (HMh.out _ HW0.out).mono ?_; rintro e w2 ⟨o2, bm, rfl, hbm⟩; simp only [Bool.false_eq_true, if_false])
  clear g0 g1 g2 g3 g4 d0 d1 d2 d3 d4 hbm
  have HO2 : Hid (Old W1 w2) := o2
  clear o2
  go_upto_region 3 with fail
  obtain ⟨⟨s0, s1, s2, s3, s4⟩, hf⟩ := HSc.out _ HO2.out
  have f0 := hf 0
  have f1 := hf 1
  have f2 := hf 2
  have f3 := hf 3
  have f4 := hf 4
  clear hf
  go_wp2_with fail
  exact bodyPost_ret (result_tri (b := gb + 1 + 1) rfl rfl rfl rfl (load_five (HSh.out _ HO2.out) Tryz.underlying57 info_shown)) rfl (givS_no HNo.out ((HW0.out.trans HO2.out).five HGs.out _ _ _ _ _))
 | true =>
  go_upto_region 2 with (go_at_call 15; refine (HMh.out _ HW0.out).mono ?_; rintro e w2 ⟨o2, bm, rfl, hbm⟩; simp only [if_true])
  clear g0 g1 g2 g3 g4 d0 d1 d2 d3 d4 hbm
  have HO2 : Hid (Old W1 w2) := o2
  clear o2
  obtain ⟨d0, d1, d2, d3, d4⟩ := HDc.out _ HO2.out
  go_upto_region 3 with (go_at_call 88; refine (HDr.out rfl _).mono ?_; rintro e w3 ⟨rfl, o3⟩)
  have HO3 : Hid (Old W1 w3) := HO2.out.trans o3
  clear d0 d1 d2 d3 d4 o3
  obtain ⟨⟨s0, s1, s2, s3, s4⟩, hf⟩ := HSc.out _ HO3.out
  have f0 := hf 0
  have f1 := hf 1
  have f2 := hf 2
  have f3 := hf 3
  have f4 := hf 4
  clear hf
  go_wp2_with fail
  exact bodyPost_ret (result_tri (b := gb + 1 + 1) rfl rfl rfl rfl (load_five (HSh.out _ HO3.out) Tryz.underlying57 info_shown)) rfl (givS_no HNo.out ((HW0.out.trans HO3.out).five HGs.out _ _ _ _ _))
def mxX (P Q G H : Int) (label : List Int) (y : Int) (n : Nat) (C : Nat -> Nat -> Int) (O : Nat -> Int) (Rh : Nat -> Nat -> Int) (R : Nat -> Int) : Int := chX label Q (knwS P Q G H y n C n (mixC P Q G y C O Rh)) n (aF P Q G H O R)
def mxC (c : Int) (P Q G H : Int) (label : List Int) (y : Int) (n : Nat) (C : Nat -> Nat -> Int) (O : Nat -> Int) (Rh : Nat -> Nat -> Int) (R S : Nat -> Int) : Int := chYZ c label Q (knwS P Q G H y n C n (mixC P Q G y C O Rh)) n (aF P Q G H O R) (bF P Q G H (mxX P Q G H label y n C O Rh R) O S)
def mxB (P Q G H : Int) (label : List Int) (y : Int) (n : Nat) (C : Nat -> Nat -> Int) (O : Nat -> Int) (Rh : Nat -> Nat -> Int) (R S : Nat -> Int) : Nat -> Int := bF P Q G H (mxX P Q G H label y n C O Rh R) O S
def mxP (P Q G H : Int) (label : List Int) (y : Int) (n : Nat) (C : Nat -> Nat -> Int) (O : Nat -> Int) (Rh : Nat -> Nat -> Int) (R S T : Nat -> Int) : Nat -> Int := pF P Q G H (mxX P Q G H label y n C O Rh R) (mxC 121 P Q G H label y n C O Rh R S) (mxC 122 P Q G H label y n C O Rh R S) O R S T
def mxT (P Q G H : Int) (label : List Int) (y : Int) (n : Nat) (C : Nat -> Nat -> Int) (O : Nat -> Int) (Rh : Nat -> Nat -> Int) (R S T : Nat -> Int) : Nat -> Int := tgtT P Q G (mxX P Q G H label y n C O Rh R) (mxC 121 P Q G H label y n C O Rh R S) (mxC 122 P Q G H label y n C O Rh R S) n (aF P Q G H O R) (mxB P Q G H label y n C O Rh R S) (mxP P Q G H label y n C O Rh R S T) (uC C) (vC C)
def mxS (P Q G H : Int) (label : List Int) (y : Int) (n : Nat) (C : Nat -> Nat -> Int) (O : Nat -> Int) (Rh : Nat -> Nat -> Int) (R S T : Nat -> Int) : Nat -> Nat -> Int := bas8 n (mxP P Q G H label y n C O Rh R S T) G H y (uC (mixC P Q G y C O Rh)) (vC (mixC P Q G y C O Rh))
def mxE (P Q G H : Int) (label : List Int) (y : Int) (n : Nat) (C : Nat -> Nat -> Int) (O : Nat -> Int) (Rh : Nat -> Nat -> Int) (R S T : Nat -> Int) : Nat -> Int := exF Q (mxX P Q G H label y n C O Rh R) (mxC 121 P Q G H label y n C O Rh R S) (mxC 122 P Q G H label y n C O Rh R S) n (fun i => (O i).toNat) R S T Rh
def mxK (P Q G H : Int) (label : List Int) (y : Int) (n : Nat) (C : Nat -> Nat -> Int) (O : Nat -> Int) (Rh : Nat -> Nat -> Int) (R S T D : Nat -> Int) : Nat -> Int := fun j => imI P Q (mxS P Q G H label y n C O Rh R S T j) D (7 * n + 3)
def mxH (P Q G H : Int) (label : List Int) (y : Int) (n : Nat) (C : Nat -> Nat -> Int) (O : Nat -> Int) (Rh : Nat -> Nat -> Int) (R S T D : Nat -> Int) : Int := chI label P Q G H (4 * n + 6) (mxT P Q G H label y n C O Rh R S T) (4 * n + 6) (fun _ => 7 * n + 3) (mxS P Q G H label y n C O Rh R S T) (4 * n + 6) (mxK P Q G H label y n C O Rh R S T D)
def mxZ (P Q G H : Int) (label : List Int) (y : Int) (n : Nat) (C : Nat -> Nat -> Int) (O : Nat -> Int) (Rh : Nat -> Nat -> Int) (R S T D : Nat -> Int) : Nat -> Int := fun k => ansI Q (mxH P Q G H label y n C O Rh R S T D) (mxE P Q G H label y n C O Rh R S T k) (D k)
theorem mix8_of {P Q G H y : Int} {w : World} {n no nρ : Nat} {C : Nat -> Nat -> Int} {O : Nat -> Int} {Rh : Nat -> Nat -> Int} {R S T : Nat -> Int} {bρ bR bS bT : Option Addr} (hr : Righ P Q G) (hin : inI P Q H = true) (hm : mixB P Q y n C no O nρ = true) (hρ : RhoIn w bρ nρ Rh) (hR : FacsIn w bR n R) (hS : FacsIn w bS n S) (hT : FacsIn w bT n T) : Mix8 P Q G H y n C O Rh R S T := by
 unfold mixB at hm
 simp only [Bool.and_eq_true_iff, decide_eq_true_eq] at hm
 obtain ⟨h1, h2, h3, h5, h6⟩ := hm
 subst h1 h2
 obtain ⟨⟨h7, h8⟩, h9⟩ := batB_iff.1 h5
 exact ⟨hr, hin, h6, h7, h8, ordB_iff.1 h3, h9, fun i hi => (hR.u64 i hi).1, fun i hi => (hS.u64 i hi).1, fun i hi => (hT.u64 i hi).1, fun i hi k hk => (hρ.u64 hi hk).1⟩
theorem sprove_any (P Q G H : Int) (a : Option Addr) (m cap : Nat) (label : List Int) (y : Int) (bi : Option Addr) (l ci : Nat) (C : Nat -> Nat -> Int) (bo : Option Addr) (no co : Nat) (O : Nat -> Int) (bρ : Option Addr) (nρ cρ : Nat) (Rh : Nat -> Nat -> Int) (bR : Option Addr) (nR cR : Nat) (R : Nat -> Int) (bS : Option Addr) (nS cS : Nat) (S : Nat -> Int) (bT : Option Addr) (nT cT : Nat) (T : Nat -> Int) (bD : Option Addr) (nD cD : Nat) (D : Nat -> Int) (w : World) (h4 : Four P Q G H) (hr : Righ P Q G) (hin : inI P Q H = true) (hy : U64 y) (hlb : Bts label) (hll : label.length <= 1000) (ml : l <= 80) (mo : no <= 80) (mρ : nρ <= 80) (hcT : nT <= cT /\ cT <= 9223372036854775807) (hcD : nD <= cD)
  (hC : BoxsIn w bi l C) (hO : IntsIn w bo no O) (hρ : RhoIn w bρ nρ Rh) (hR : FacsIn w bR nR R) (hS : FacsIn w bS nS S) (hT : FacsIn w bT nT T) (hD : FacsIn w bD nD D) :
  Calls Tryz.prog 31 #[gv P Q G H a m cap, .string (strOfNums label), .int .u64 y, .slice bi l ci, .slice bo no co, dv bρ nρ cρ bR nR cR bS nS cS bT nT cT bD nD cD] w (GivS w (mixB P Q y l C no O nρ && drwB l nR nS nT nD) l (mixC P Q G y C O Rh) (aF P Q G H O R) (mxB P Q G H label y l C O Rh R S) (mxP P Q G H label y l C O Rh R S T) (4 * l + 6) (mxK P Q G H label y l C O Rh R S T D) (7 * l + 3) (mxZ P Q G H label y l C O Rh R S T D)) := by
 cases hok : (mixB P Q y l C no O nρ && drwB l nR nS nT nD) with
 | false =>
  rw [<- hok]
  exact spro_no P Q G H a m cap label y bi l ci C bo no co O bρ nρ cρ Rh bR nR cR bS nS cS bT nT cT bD nD cD _ _ _ _ _ _ _ _ w h4 hr hy ml mo mρ hC hO hρ hok
 | true =>
  obtain ⟨hm, hd⟩ := Bool.and_eq_true_iff.1 hok
  obtain ⟨e1, e2, e3, e4⟩ := drwB_iff.1 hd
  have hm' := hm
  unfold mixB at hm'
  simp only [Bool.and_eq_true_iff, decide_eq_true_eq] at hm'
  obtain ⟨e5, e6, h3, h5, h6⟩ := hm'
  subst e1 e2 e3 e5 e6
  have M := mix8_of hr hin hm hρ hR hS hT
  have uY : U64 (mxC 121 P Q G H label y nρ C O Rh R S) := by unfold mxC chYZ; exact u64_number _ _ _ _
  have uZ : U64 (mxC 122 P Q G H label y nρ C O Rh R S) := by unfold mxC chYZ; exact u64_number _ _ _ _
  have hsz := (M.claim (mxX P Q G H label y nρ C O Rh R) uY.1 uZ.1).size
  exact lpro_any P Q G H a m cap label y bi ci C bo co O bρ cρ Rh bR cR R bS cS S bT cT T bD nD cD D nρ (mxX P Q G H label y nρ C O Rh R) (mxC 121 P Q G H label y nρ C O Rh R S) (mxC 122 P Q G H label y nρ C O Rh R S) (aF P Q G H O R) (mxB P Q G H label y nρ C O Rh R S) (mxP P Q G H label y nρ C O Rh R S T) (mixC P Q G y C O Rh) (mxE P Q G H label y nρ C O Rh R S T) (mxK P Q G H label y nρ C O Rh R S T D) (mxZ P Q G H label y nρ C O Rh R S T D) w M.n1 M.n8 h4 hr hy hlb hll hcT hcD hC hO hρ hR hS hT hD hm hd h3 rfl rfl rfl rfl rfl rfl rfl rfl (congrArg (fun z => fun j => imI P Q (mxS P Q G H label y nρ C O Rh R S T j) D z) hsz.symm) rfl (M.clm _ uY.1 uZ.1) (M.prov _ uY.1 uZ.1 e4)
end
section
def kN : List Nat := kList.map Int.toNat
def rotN (x n : Nat) : Nat := (x >>> n) ||| (x <<< (32 - n) % 4294967296)
def low0N (x : Nat) : Nat := (rotN x 7 ^^^ rotN x 18) ^^^ (x >>> 3)
def low1N (x : Nat) : Nat := (rotN x 17 ^^^ rotN x 19) ^^^ (x >>> 10)
def big1N (x : Nat) : Nat := (rotN x 6 ^^^ rotN x 11) ^^^ rotN x 25
def big0N (x : Nat) : Nat := (rotN x 2 ^^^ rotN x 13) ^^^ rotN x 22
def pickN (e f g : Nat) : Nat := (e &&& f) ||| ((4294967295 ^^^ e) &&& g)
def mostN (a b c : Nat) : Nat := ((a &&& b) ||| (a &&& c)) ||| (b &&& c)
def runN : List Nat -> (w0 w1 w2 w3 w4 w5 w6 w7 w8 w9 w10 w11 w12 w13 w14 w15 : Nat) -> (a b c d e f g h : Nat) -> List Nat
 | [], _, _, _, _, _, _, _, _, _, _, _, _, _, _, _, _, a, b, c, d, e, f, g, h => [a, b, c, d, e, f, g, h]
 | k :: ks, w0, w1, w2, w3, w4, w5, w6, w7, w8, w9, w10, w11, w12, w13, w14, w15, a, b, c, d, e, f, g, h =>
  runN ks w1 w2 w3 w4 w5 w6 w7 w8 w9 w10 w11 w12 w13 w14 w15 ((w0 + low0N w1 + w9 + low1N w14) % 4294967296)
   ((h + big1N e + pickN e f g + k + w0 + (big0N a + mostN a b c)) % 4294967296) a b c ((d + (h + big1N e + pickN e f g + k + w0)) % 4294967296) e f g
abbrev U32 (n : Nat) : Prop := n < 4294967296
theorem or_nat {a b : Nat} (ha : U32 a) (hb : U32 b) : or32 (a : Int) (b : Int) = ((a ||| b : Nat) : Int) := u32_or_nat a b ha hb
theorem xor_nat {a b : Nat} (ha : U32 a) (hb : U32 b) : xor32 (a : Int) (b : Int) = ((a ^^^ b : Nat) : Int) := u32_xor_nat a b ha hb
theorem and_nat {a b : Nat} (ha : U32 a) (hb : U32 b) : and32 (a : Int) (b : Int) = ((a &&& b : Nat) : Int) := u32_and_nat a b ha hb
theorem not_nat {a : Nat} (ha : U32 a) : not32 (a : Int) = ((4294967295 ^^^ a : Nat) : Int) := u32_xor_nat 4294967295 a (by omega) ha
theorem or_lt {a b : Nat} (ha : U32 a) (hb : U32 b) : U32 (a ||| b) := Nat.or_lt_two_pow (n := 32) ha hb
theorem xor_lt {a b : Nat} (ha : U32 a) (hb : U32 b) : U32 (a ^^^ b) := Nat.xor_lt_two_pow (n := 32) ha hb
theorem and_lt {a b : Nat} (ha : U32 a) : U32 (a &&& b) := Nat.lt_of_le_of_lt Nat.and_le_left ha
theorem shr_lt {a : Nat} (n : Nat) (ha : U32 a) : U32 (a >>> n) := by
 rw [Nat.shiftRight_eq_div_pow]
 exact Nat.lt_of_le_of_lt (Nat.div_le_self _ _) ha
theorem rotN_lt {x n : Nat} (hx : U32 x) : U32 (rotN x n) := or_lt (shr_lt n hx) (Nat.mod_lt _ (by omega))
theorem rot_nat {x : Nat} (n : Nat) (hx : U32 x) : rot (x : Int) n = (rotN x n : Int) := by
 unfold rot rotN
 have e1 : (x : Int) / 2 ^ n = ((x >>> n : Nat) : Int) := by
  rw [Nat.shiftRight_eq_div_pow, Int.natCast_ediv, Int.natCast_pow]
  rfl
 have e2 : (x : Int) * 2 ^ (32 - n) % 4294967296 = ((x <<< (32 - n) % 4294967296 : Nat) : Int) := by
  rw [Nat.shiftLeft_eq, Int.natCast_emod, Int.natCast_mul, Int.natCast_pow]
  rfl
 rw [e1, e2]
 exact or_nat (shr_lt n hx) (Nat.mod_lt _ (by omega))
theorem low0_nat {x : Nat} (hx : U32 x) : low0 (x : Int) = (low0N x : Int) /\ U32 (low0N x) := by
 unfold low0 low0N
 have e : (x : Int) / (8 : Int) = ((x >>> 3 : Nat) : Int) := by
  rw [Nat.shiftRight_eq_div_pow]
  omega
 rw [rot_nat _ hx, rot_nat _ hx, e, xor_nat (rotN_lt hx) (rotN_lt hx), xor_nat (xor_lt (rotN_lt hx) (rotN_lt hx)) (shr_lt 3 hx)]
 exact ⟨rfl, xor_lt (xor_lt (rotN_lt hx) (rotN_lt hx)) (shr_lt 3 hx)⟩
theorem low1_nat {x : Nat} (hx : U32 x) : low1 (x : Int) = (low1N x : Int) /\ U32 (low1N x) := by
 unfold low1 low1N
 have e : (x : Int) / (1024 : Int) = ((x >>> 10 : Nat) : Int) := by
  rw [Nat.shiftRight_eq_div_pow]
  omega
 rw [rot_nat _ hx, rot_nat _ hx, e, xor_nat (rotN_lt hx) (rotN_lt hx), xor_nat (xor_lt (rotN_lt hx) (rotN_lt hx)) (shr_lt 10 hx)]
 exact ⟨rfl, xor_lt (xor_lt (rotN_lt hx) (rotN_lt hx)) (shr_lt 10 hx)⟩
theorem big1_nat {x : Nat} (hx : U32 x) : big1 (x : Int) = (big1N x : Int) := by
 unfold big1 big1N
 rw [rot_nat _ hx, rot_nat _ hx, rot_nat _ hx, xor_nat (rotN_lt hx) (rotN_lt hx), xor_nat (xor_lt (rotN_lt hx) (rotN_lt hx)) (rotN_lt hx)]
theorem big0_nat {x : Nat} (hx : U32 x) : big0 (x : Int) = (big0N x : Int) := by
 unfold big0 big0N
 rw [rot_nat _ hx, rot_nat _ hx, rot_nat _ hx, xor_nat (rotN_lt hx) (rotN_lt hx), xor_nat (xor_lt (rotN_lt hx) (rotN_lt hx)) (rotN_lt hx)]
theorem pick_nat {e f g : Nat} (he : U32 e) (hf : U32 f) (hg : U32 g) : pick (e : Int) f g = (pickN e f g : Int) := by
 unfold pick pickN
 have hn : U32 (4294967295 ^^^ e) := xor_lt (by show 4294967295 < 4294967296; omega) he
 rw [not_nat he, and_nat he hf, and_nat hn hg, or_nat (and_lt he) (and_lt hn)]
theorem most_nat {a b c : Nat} (ha : U32 a) (hb : U32 b) (hc : U32 c) : most (a : Int) b c = (mostN a b c : Int) := by
 unfold most mostN
 rw [and_nat ha hb, and_nat ha hc, and_nat hb hc, or_nat (and_lt ha) (and_lt ha), or_nat (or_lt (and_lt ha) (and_lt ha)) (and_lt hb)]
def wI (B : Nat -> Int) (j : Nat) : Int := sched B (j + 1) j
theorem sched_is (B : Nat -> Int) {j : Nat} : ∀ T, j < T -> sched B T j = wI B j
 | 0, h => by omega
 | T + 1, h => by
  by_cases he : j = T
  · subst he; rfl
  · show (if j = T then word B (sched B T) T else sched B T j) = _
   rw [if_neg he]
   exact sched_is B T (by omega)
theorem wI_low (B : Nat -> Int) {t : Nat} (h : t < 16) : wI B t = four (B (4 * t)) (B (4 * t + 1)) (B (4 * t + 2)) (B (4 * t + 3)) := by
 show (if t = t then word B (sched B t) t else sched B t t) = _
 rw [if_pos rfl, word_low h]
theorem wI_high (B : Nat -> Int) (t : Nat) : wI B (t + 16) = add32 (add32 (add32 (wI B t) (low0 (wI B (t + 1)))) (wI B (t + 9))) (low1 (wI B (t + 14))) := by
 show (if t + 16 = t + 16 then word B (sched B (t + 16)) (t + 16) else sched B (t + 16) (t + 16)) = _
 rw [if_pos rfl, word_high (by omega), show t + 16 - 16 = t by omega, show t + 16 - 15 = t + 1 by omega, show t + 16 - 7 = t + 9 by omega, show t + 16 - 2 = t + 14 by omega,
  sched_is B (t + 16) (by omega), sched_is B (t + 16) (by omega), sched_is B (t + 16) (by omega), sched_is B (t + 16) (by omega)]
theorem add_nat (a b : Nat) : add32 (a : Int) (b : Int) = (((a + b) % 4294967296 : Nat) : Int) := by
 unfold add32
 omega
theorem m_lt (a : Nat) : U32 (a % 4294967296) := Nat.mod_lt _ (by omega)
theorem add_five (a b c d e : Nat) : add32 (add32 (add32 (add32 (a : Int) b) c) d) e = (((a + b + c + d + e) % 4294967296 : Nat) : Int) := by
 unfold add32
 omega
theorem run_is (B : Nat -> Int) (v : Nat -> Int) (W : Nat -> Nat) (hW : ∀ j, wI B j = (W j : Int) /\ U32 (W j)) : ∀ (n t : Nat) (a b c d e f g h : Nat), t + n = 64 ->
  (rounds (wI B) t v 0 = (a : Int) /\ U32 a) -> (rounds (wI B) t v 1 = (b : Int) /\ U32 b) -> (rounds (wI B) t v 2 = (c : Int) /\ U32 c) -> (rounds (wI B) t v 3 = (d : Int) /\ U32 d) ->
  (rounds (wI B) t v 4 = (e : Int) /\ U32 e) -> (rounds (wI B) t v 5 = (f : Int) /\ U32 f) -> (rounds (wI B) t v 6 = (g : Int) /\ U32 g) -> (rounds (wI B) t v 7 = (h : Int) /\ U32 h) ->
  ∀ i, i < 8 -> rounds (wI B) 64 v i = (((runN (kN.drop t) (W t) (W (t + 1)) (W (t + 2)) (W (t + 3)) (W (t + 4)) (W (t + 5)) (W (t + 6)) (W (t + 7)) (W (t + 8)) (W (t + 9)) (W (t + 10)) (W (t + 11)) (W (t + 12)) (W (t + 13)) (W (t + 14)) (W (t + 15)) a b c d e f g h).getD i 0 : Nat) : Int)
 | 0, t, a, b, c, d, e, f, g, h, ht, h0, h1, h2, h3, h4, h5, h6, h7, i, hi => by
  obtain rfl : t = 64 := by omega
  have hd : kN.drop 64 = [] := by decide
  rw [hd]
  match i, hi with
  | 0, _ => exact h0.1
  | 1, _ => exact h1.1
  | 2, _ => exact h2.1
  | 3, _ => exact h3.1
  | 4, _ => exact h4.1
  | 5, _ => exact h5.1
  | 6, _ => exact h6.1
  | 7, _ => exact h7.1
 | n + 1, t, a, b, c, d, e, f, g, h, ht, h0, h1, h2, h3, h4, h5, h6, h7, i, hi => by
  have hk : kN.drop t = kN.getD t 0 :: kN.drop (t + 1) := by
   have hl : t < kN.length := by
    have : kN.length = 64 := by decide
    omega
   rw [List.drop_eq_getElem_cons hl]
   simp [List.getD, hl]
  have hkS : kS t = (kN.getD t 0 : Int) := by
   have hall : ∀ t, t < 64 -> kS t = (kN.getD t 0 : Int) := by decide
   exact hall t (by omega)
  have hone : one32 (rounds (wI B) t v) (kS t) (wI B t) = (((h + big1N e + pickN e f g + kN.getD t 0 + W t) % 4294967296 : Nat) : Int) := by
   unfold one32
   rw [h4.1, h5.1, h6.1, h7.1, big1_nat h4.2, pick_nat h4.2 h5.2 h6.2, hkS, (hW t).1]
   exact add_five _ _ _ _ _
  have htwo : two32 (rounds (wI B) t v) = (((big0N a + mostN a b c) % 4294967296 : Nat) : Int) := by
   unfold two32
   rw [h0.1, h1.1, h2.1, big0_nat h0.2, most_nat h0.2 h1.2 h2.2]
   exact add_nat _ _
  have r0 : rounds (wI B) (t + 1) v 0 = (((h + big1N e + pickN e f g + kN.getD t 0 + W t + (big0N a + mostN a b c)) % 4294967296 : Nat) : Int) := by
   show add32 (one32 (rounds (wI B) t v) (kS t) (wI B t)) (two32 (rounds (wI B) t v)) = _
   rw [hone, htwo, add_nat, <- Nat.add_mod]
  have r4 : rounds (wI B) (t + 1) v 4 = (((d + (h + big1N e + pickN e f g + kN.getD t 0 + W t)) % 4294967296 : Nat) : Int) := by
   show add32 (rounds (wI B) t v 3) (one32 (rounds (wI B) t v) (kS t) (wI B t)) = _
   rw [hone, h3.1, add_nat]
   omega
  have w16 : W (t + 16) = (W t + low0N (W (t + 1)) + W (t + 9) + low1N (W (t + 14))) % 4294967296 := by
   have e1 := wI_high B t
   rw [(hW (t + 16)).1, (hW t).1, (hW (t + 1)).1, (hW (t + 9)).1, (hW (t + 14)).1, (low0_nat (hW (t + 1)).2).1, (low1_nat (hW (t + 14)).2).1] at e1
   unfold add32 at e1
   omega
  rw [hk]
  have ih := run_is B v W hW n (t + 1) _ a b c _ e f g (by omega) ⟨r0, m_lt _⟩ ⟨h0.1, h0.2⟩ ⟨h1.1, h1.2⟩ ⟨h2.1, h2.2⟩ ⟨r4, m_lt _⟩ ⟨h4.1, h4.2⟩ ⟨h5.1, h5.2⟩ ⟨h6.1, h6.2⟩ i hi
  rw [ih]
  show _ = (((runN (kN.drop (t + 1)) (W (t + 1)) (W (t + 2)) (W (t + 3)) (W (t + 4)) (W (t + 5)) (W (t + 6)) (W (t + 7)) (W (t + 8)) (W (t + 9)) (W (t + 10)) (W (t + 11)) (W (t + 12)) (W (t + 13)) (W (t + 14)) (W (t + 15)) ((W t + low0N (W (t + 1)) + W (t + 9) + low1N (W (t + 14))) % 4294967296) _ a b c _ e f g).getD i 0 : Nat) : Int)
  rw [<- w16]
def fourN (a b c d : Nat) : Nat := ((a * 16777216 ||| b * 65536) ||| c * 256) ||| d
theorem four_nat {a b c d : Nat} (ha : a <= 255) (hb : b <= 255) (hc : c <= 255) (hd : d <= 255) : four (a : Int) b c d = (fourN a b c d : Int) /\ U32 (fourN a b c d) := by
 have h1 : a * 16777216 < 4294967296 := Nat.lt_of_le_of_lt (Nat.mul_le_mul_right _ ha) (by decide)
 have h2 : b * 65536 < 4294967296 := Nat.lt_of_le_of_lt (Nat.mul_le_mul_right _ hb) (by decide)
 have h3 : c * 256 < 4294967296 := Nat.lt_of_le_of_lt (Nat.mul_le_mul_right _ hc) (by decide)
 have h4 : d < 4294967296 := by omega
 have e1 : (a : Int) * 16777216 = ((a * 16777216 : Nat) : Int) := by omega
 have e2 : (b : Int) * 65536 = ((b * 65536 : Nat) : Int) := by omega
 have e3 : (c : Int) * 256 = ((c * 256 : Nat) : Int) := by omega
 unfold four fourN
 rw [e1, e2, e3, or_nat h1 h2, or_nat (or_lt h1 h2) h3, or_nat (or_lt (or_lt h1 h2) h3) h4]
 exact ⟨rfl, or_lt (or_lt (or_lt h1 h2) h3) h4⟩
theorem wI_bd (B : Nat -> Int) (j : Nat) : 0 <= wI B j /\ wI B j < 4294967296 := by
 by_cases h : j < 16
 · rw [wI_low B h]
  unfold four or32
  have h1 := bits_lo_u32 .or (bits .or .u32 (bits .or .u32 (B (4 * j) * 16777216) (B (4 * j + 1) * 65536)) (B (4 * j + 2) * 256)) (B (4 * j + 3))
  have h2 := bits_hi_u32 .or (bits .or .u32 (bits .or .u32 (B (4 * j) * 16777216) (B (4 * j + 1) * 65536)) (B (4 * j + 2) * 256)) (B (4 * j + 3))
  omega
 · obtain ⟨t, rfl⟩ : ∃ t, j = t + 16 := ⟨j - 16, by omega⟩
  rw [wI_high]
  unfold add32
  omega
def wordN (bs : Nat -> Nat) (c j : Nat) : Nat := fourN (bs (64 * c + 4 * j)) (bs (64 * c + 4 * j + 1)) (bs (64 * c + 4 * j + 2)) (bs (64 * c + 4 * j + 3))
def pieceN (bs : Nat -> Nat) (c : Nat) : List Nat -> List Nat
 | [a, b, cc, d, e, f, g, h] => List.zipWith (fun x y => (x + y) % 4294967296) [a, b, cc, d, e, f, g, h]
   (runN kN (wordN bs c 0) (wordN bs c 1) (wordN bs c 2) (wordN bs c 3) (wordN bs c 4) (wordN bs c 5) (wordN bs c 6) (wordN bs c 7) (wordN bs c 8) (wordN bs c 9) (wordN bs c 10) (wordN bs c 11) (wordN bs c 12) (wordN bs c 13) (wordN bs c 14) (wordN bs c 15) a b cc d e f g h)
 | _ => []
def stN (bs : Nat -> Nat) : Nat -> List Nat
 | 0 => hList.map Int.toNat
 | c + 1 => pieceN bs c (stN bs c)
theorem runN_len : ∀ (ks : List Nat) (w0 w1 w2 w3 w4 w5 w6 w7 w8 w9 w10 w11 w12 w13 w14 w15 a b c d e f g h : Nat), (runN ks w0 w1 w2 w3 w4 w5 w6 w7 w8 w9 w10 w11 w12 w13 w14 w15 a b c d e f g h).length = 8
 | [], _, _, _, _, _, _, _, _, _, _, _, _, _, _, _, _, _, _, _, _, _, _, _, _ => rfl
 | _ :: ks, _, _, _, _, _, _, _, _, _, _, _, _, _, _, _, _, _, _, _, _, _, _, _, _ => runN_len ks _ _ _ _ _ _ _ _ _ _ _ _ _ _ _ _ _ _ _ _ _ _ _ _
theorem rounds_eq {W V : Nat -> Int} : ∀ (T : Nat) (v : Nat -> Int) (i : Nat), (∀ j, j < T -> W j = V j) -> rounds W T v i = rounds V T v i
 | 0, _, _, _ => rfl
 | T + 1, v, i, h => by
  have e : rounds W T v = rounds V T v := funext fun i => rounds_eq T v i fun j hj => h j (by omega)
  show round32 (rounds W T v) (kS T) (W T) i = round32 (rounds V T v) (kS T) (V T) i
  rw [e, h T (by omega)]
theorem start_is : ∀ i, i < 8 -> hS i = (((hList.map Int.toNat).getD i 0 : Nat) : Int) /\ (hList.map Int.toNat).getD i 0 < 4294967296 := by decide
theorem state_is (bs : Nat -> Nat) (hb : ∀ i, bs i <= 255) : ∀ c, ∃ a b cc d e f g h : Nat, stN bs c = [a, b, cc, d, e, f, g, h] /\ ∀ i, i < 8 -> state (fun i => (bs i : Int)) c i = (((stN bs c).getD i 0 : Nat) : Int) /\ U32 ((stN bs c).getD i 0)
 | 0 => ⟨_, _, _, _, _, _, _, _, rfl, start_is⟩
 | c + 1 => by
  obtain ⟨a, b, cc, d, e, f, g, h, hs, hst⟩ := state_is bs hb c
  have s0 := hst 0 (by omega)
  have s1 := hst 1 (by omega)
  have s2 := hst 2 (by omega)
  have s3 := hst 3 (by omega)
  have s4 := hst 4 (by omega)
  have s5 := hst 5 (by omega)
  have s6 := hst 6 (by omega)
  have s7 := hst 7 (by omega)
  rw [hs] at s0 s1 s2 s3 s4 s5 s6 s7
  have hW : ∀ j, wI (fun j => ((bs (64 * c + j) : Nat) : Int)) j = ((wI (fun j => ((bs (64 * c + j) : Nat) : Int)) j).toNat : Int) /\ U32 (wI (fun j => ((bs (64 * c + j) : Nat) : Int)) j).toNat := fun j => by
   have := wI_bd (fun j => ((bs (64 * c + j) : Nat) : Int)) j
   exact ⟨by omega, by show _ < _; omega⟩
  have hw : ∀ j, j < 16 -> (wI (fun j => ((bs (64 * c + j) : Nat) : Int)) j).toNat = wordN bs c j := fun j hj => by
   rw [wI_low _ hj, (four_nat (hb _) (hb _) (hb _) (hb _)).1, Int.toNat_natCast]
   rfl
  have run := run_is (fun j => ((bs (64 * c + j) : Nat) : Int)) (state (fun i => (bs i : Int)) c) _ hW 64 0 a b cc d e f g h rfl s0 s1 s2 s3 s4 s5 s6 s7
  rw [hw 0 (by omega), hw 1 (by omega), hw 2 (by omega), hw 3 (by omega), hw 4 (by omega), hw 5 (by omega), hw 6 (by omega), hw 7 (by omega), hw 8 (by omega), hw 9 (by omega), hw 10 (by omega), hw 11 (by omega), hw 12 (by omega), hw 13 (by omega), hw 14 (by omega), hw 15 (by omega)] at run
  have e1 : stN bs (c + 1) = List.zipWith (fun x y => (x + y) % 4294967296) [a, b, cc, d, e, f, g, h]
    (runN kN (wordN bs c 0) (wordN bs c 1) (wordN bs c 2) (wordN bs c 3) (wordN bs c 4) (wordN bs c 5) (wordN bs c 6) (wordN bs c 7) (wordN bs c 8) (wordN bs c 9) (wordN bs c 10) (wordN bs c 11) (wordN bs c 12) (wordN bs c 13) (wordN bs c 14) (wordN bs c 15) a b cc d e f g h) := by
   show pieceN bs c (stN bs c) = _
   rw [hs]
   rfl
  obtain ⟨r, hr⟩ : ∃ r, r = runN kN (wordN bs c 0) (wordN bs c 1) (wordN bs c 2) (wordN bs c 3) (wordN bs c 4) (wordN bs c 5) (wordN bs c 6) (wordN bs c 7) (wordN bs c 8) (wordN bs c 9) (wordN bs c 10) (wordN bs c 11) (wordN bs c 12) (wordN bs c 13) (wordN bs c 14) (wordN bs c 15) a b cc d e f g h := ⟨_, rfl⟩
  have hl : r.length = 8 := by rw [hr]; exact runN_len _ _ _ _ _ _ _ _ _ _ _ _ _ _ _ _ _ _ _ _ _ _ _ _ _
  rw [<- hr] at e1
  have hrun : ∀ i, i < 8 -> rounds (sched (fun j => ((bs (64 * c + j) : Nat) : Int)) 64) 64 (state (fun i => (bs i : Int)) c) i = ((r.getD i 0 : Nat) : Int) := fun i hi => by
   rw [rounds_eq 64 _ i (fun j hj => sched_is _ 64 hj), run i hi, hr]
   rfl
  match r, hl with
  | [r0, r1, r2, r3, r4, r5, r6, r7], _ =>
   refine ⟨_, _, _, _, _, _, _, _, e1, fun i hi => ?_⟩
   rw [e1]
   have key : ∀ i, i < 8 -> state (fun i => (bs i : Int)) (c + 1) i = add32 (state (fun i => (bs i : Int)) c i) ((([r0, r1, r2, r3, r4, r5, r6, r7] : List Nat).getD i 0 : Nat) : Int) := fun i hi => by
    rw [<- hrun i hi]
    rfl
   rw [key i hi]
   match i, hi with
   | 0, _ => exact ⟨by rw [s0.1]; exact add_nat _ _, m_lt _⟩
   | 1, _ => exact ⟨by rw [s1.1]; exact add_nat _ _, m_lt _⟩
   | 2, _ => exact ⟨by rw [s2.1]; exact add_nat _ _, m_lt _⟩
   | 3, _ => exact ⟨by rw [s3.1]; exact add_nat _ _, m_lt _⟩
   | 4, _ => exact ⟨by rw [s4.1]; exact add_nat _ _, m_lt _⟩
   | 5, _ => exact ⟨by rw [s5.1]; exact add_nat _ _, m_lt _⟩
   | 6, _ => exact ⟨by rw [s6.1]; exact add_nat _ _, m_lt _⟩
   | 7, _ => exact ⟨by rw [s7.1]; exact add_nat _ _, m_lt _⟩
def shaN (xs : List Int) : List Int := outL (fun i => (((stN (fun i => ((padL xs).getD i 0).toNat) (pieces xs.length)).getD i 0 : Nat) : Int)) 8
theorem outL_eq {h h' : Nat -> Int} : ∀ n, (∀ i, i < n -> h i = h' i) -> outL h n = outL h' n
 | 0, _ => rfl
 | n + 1, e => by
  show outL h n ++ bytesL (h n) 4 = outL h' n ++ bytesL (h' n) 4
  rw [outL_eq n fun i hi => e i (by omega), e n (by omega)]
theorem sum_is (xs : List Int) (h : Bts xs) : sumL xs = shaN xs := by
 have hb := fun i => getD_bd (pad_bd h) i
 have e : (fun i => (padL xs).getD i 0) = fun i => ((((padL xs).getD i 0).toNat : Nat) : Int) := funext fun i => by
  have := hb i
  omega
 unfold sumL shaN
 rw [e]
 refine outL_eq 8 fun i hi => ?_
 obtain ⟨_, _, _, _, _, _, _, _, _, hst⟩ := state_is (fun i => ((padL xs).getD i 0).toNat) (fun i => by have := hb i; omega) (pieces xs.length)
 exact (hst i hi).1
end
section
open Go.RowKit
def accG (P Q G H : Int) (label : List Int) (y : Int) (l : Nat) (C : Nat -> Nat -> Int) (no : Nat) (O : Nat -> Nat -> Int) (na : Nat) (A : Nat -> Int) (nb : Nat) (B : Nat -> Int) (np : Nat) (Pp : Nat -> Int) (nk : Nat) (K : Nat -> Int) (nz : Nat) (Xz : Nat -> Int) : Bool :=
 fitB l no na nb np && accS P Q G H label y l C O A B Pp nk K nz Xz (chX label Q (knwS P Q G H y l C l O) l A) (chYZ 121 label Q (knwS P Q G H y l C l O) l A B) (chYZ 122 label Q (knwS P Q G H y l C l O) l A B)
theorem saccept_any (P Q G H : Int) (a : Option Addr) (m cap : Nat) (label : List Int) (y : Int) (bi : Option Addr) (l ci : Nat) (C : Nat -> Nat -> Int) (bo : Option Addr) (no co : Nat) (O : Nat -> Nat -> Int) (ba : Option Addr) (na ca : Nat) (A : Nat -> Int) (bb : Option Addr) (nb cb : Nat) (B : Nat -> Int) (bp : Option Addr) (np cp : Nat) (Pp : Nat -> Int) (bk : Option Addr) (nk ck : Nat) (K : Nat -> Int) (bz : Option Addr) (nz cz : Nat) (Xz : Nat -> Int) (w : World) (h4 : Four P Q G H) (hr : Righ P Q G) (hy : U64 y) (hlb : Bts label) (hll : label.length <= 1000) (ml : l <= 9223372036854775807) (hca : na <= ca /\ ca <= 9223372036854775807) (hcb : nb <= cb /\ cb <= 9223372036854775807) (mk : nk <= 80) (hC : BoxsIn w bi l C) (hO : BoxsIn w bo no O) (hA : FacsIn w ba na A) (hB : FacsIn w bb nb B) (hP : FacsIn w bp np Pp) (hK : FacsIn w bk nk K) (hX : FacsIn w bz nz Xz) :
  Calls Tryz.prog 34 #[gv P Q G H a m cap, .string (strOfNums label), .int .u64 y, .slice bi l ci, .slice bo no co, .agg #[.slice ba na ca, .slice bb nb cb, .slice bp np cp, .slice bk nk ck, .slice bz nz cz]] w (Ret w (.bool (accG P Q G H label y l C no O na A nb B np Pp nk K nz Xz))) := by
 unfold accG
 cases hf : fitB l no na nb np with
 | false =>
  rw [Bool.false_and]
  exact sacc_no P Q G H a m cap label y bi l ci bo no co ba na ca bb nb cb bp np cp bk nk ck bz nz cz w ml hf
 | true =>
  rw [Bool.true_and]
  obtain ⟨⟨h1, h8⟩, e1, e2, e3, e4⟩ := fitB_iff.1 hf
  subst e1 e2 e3 e4
  exact lacc_any P Q G H a m cap label y bi ci C bo co O ba ca A bb cb B bp cp Pp bk nk ck K bz nz cz Xz _ _ _ _ w h1 h8 h4 hr hy hlb hll hca hcb mk hC hO hA hB hP hK hX rfl rfl rfl
theorem Mix8.accG {P Q G H y : Int} {n : Nat} {C : Nat -> Nat -> Int} {O : Nat -> Int} {Rh : Nat -> Nat -> Int} {R S T : Nat -> Int} (m : Mix8 P Q G H y n C O Rh R S T) (label : List Int) {D : Nat -> Int} (hD : ∀ k, k < 7 * n + 3 -> 0 <= D k) :
  accG P Q G H label y n C n (mixC P Q G y C O Rh) n (aF P Q G H O R) n (mxB P Q G H label y n C O Rh R S) n (mxP P Q G H label y n C O Rh R S T) (4 * n + 6) (mxK P Q G H label y n C O Rh R S T D) (7 * n + 3) (mxZ P Q G H label y n C O Rh R S T D) = true := by
 have uY : U64 (mxC 121 P Q G H label y n C O Rh R S) := by unfold mxC chYZ; exact u64_number _ _ _ _
 have uZ : U64 (mxC 122 P Q G H label y n C O Rh R S) := by unfold mxC chYZ; exact u64_number _ _ _ _
 have uH : U64 (mxH P Q G H label y n C O Rh R S T D) := by unfold mxH chI; exact u64_number _ _ _ _
 unfold Go.Proofs.YtlnmjbbpenhdbaaGreat.accG accS
 rw [Bool.and_eq_true_iff, Bool.and_eq_true_iff]
 exact ⟨fitB_iff.2 ⟨⟨m.n1, m.n8⟩, rfl, rfl, rfl, rfl⟩, m.clm _ uY.1 uZ.1, m.acc _ uY.1 uZ.1 uH.1 hD⟩
theorem packL_congr {F G : Nat -> Int} : ∀ n, (∀ i, i < n -> F i = G i) -> packL F n = packL G n
 | 0, _ => rfl
 | n + 1, h => by
  unfold packL
  rw [packL_congr n fun i hi => h i (by omega), h n (by omega)]
theorem chX_congr {label : List Int} {Q : Int} {K : Nat -> List Int} {n : Nat} {A A' : Nat -> Int} (h : ∀ i, i < n -> A i = A' i) : chX label Q K n A = chX label Q K n A' := by
 unfold chX
 refine number_congr fun i hi => ?_
 unfold askS
 split
 · rfl
 split
 · rfl
 · exact packL_congr _ h
theorem chYZ_congr {c : Int} {label : List Int} {Q : Int} {K : Nat -> List Int} {n : Nat} {A A' B B' : Nat -> Int} (h : ∀ i, i < n -> A i = A' i) (k : ∀ i, i < n -> B i = B' i) : chYZ c label Q K n A B = chYZ c label Q K n A' B' := by
 unfold chYZ
 refine number_congr fun i hi => ?_
 unfold askS
 split
 · rfl
 split
 · rfl
 · match i - 4 with
  | 0 => exact packL_congr _ h
  | _ + 1 => exact packL_congr _ k
theorem number_is {label : List Int} {S : Nat -> List Int} {n : Nat} {q v : Int} (l : List Int) (e : numL label S n = l) (hb : Bts l) (hq : okM q) (hv : numF (fun i => (shaN l).getD i 0) q 16 = v) : numberI label S n q = v := by
 unfold numberI
 rw [if_pos hq, e, sum_is l hb]
 exact hv
def bx8 : Nat -> Int
 | 0 => 1
 | 1 => 4
 | 2 => 1
 | 3 => 9
 | 4 => 4
 | _ => 16
def rh8 : Nat -> Int
 | 0 => 5
 | 1 => 6
 | _ => 7
def mx8 : Nat -> Int
 | 0 => 1024
 | 1 => 1590
 | 2 => 42
 | 3 => 1936
 | 4 => 672
 | _ => 1583
abbrev awC : Nat -> Nat -> Int := fun _ => bx8
abbrev awR : Nat -> Nat -> Int := fun _ => rh8
abbrev awO : Nat -> Int := fun _ => 0
abbrev awM : Nat -> Nat -> Int := mixC 2027 1013 4 64 awC awO awR
theorem aw_mix : mixB 2027 1013 64 1 awC 1 awO 1 = true := by decide +kernel
theorem aw_drw : drwB 1 1 1 1 10 = true := by decide +kernel
theorem aw_h : inI 2027 1013 9 = true := by decide +kernel
theorem aw_M : ∀ k, k < 6 -> awM 0 k = mx8 k := by decide +kernel
theorem aw_A : aF 2027 1013 4 9 awO (fun _ => 1) 0 = 36 := by decide +kernel
def kn8 : Nat -> List Int := knwS 2027 1013 4 9 64 1 awC 1 awM
def kn9 : Nat -> List Int := knwS 2027 1013 4 9 64 1 awM 1 awM
theorem aw_X : mxX 2027 1013 4 9 [97] 64 1 awC awO awR (fun _ => 1) = 262 := by
 unfold mxX
 rw [chX_congr (A' := fun _ => 36) fun i hi => by have : i = 0 := by omega
                          subst this; exact aw_A]
 have e : numL [97] (askS [120] kn8 (one8 (fun _ => 36)) (one8 1)) (1 + 4) = [0, 0, 0, 0, 0, 0, 0, 1, 97, 0, 0, 0, 0, 0, 0, 0, 1, 120, 0, 0, 0, 0, 0, 0, 0, 40, 0, 0, 0, 0, 0, 0, 7, 235, 0, 0, 0, 0, 0, 0, 3, 245, 0, 0, 0, 0, 0, 0, 0, 4, 0, 0, 0, 0, 0, 0, 0, 9, 0, 0, 0, 0, 0, 0, 0, 64, 0, 0, 0, 0, 0, 0, 0, 48, 0, 0, 0, 0, 0, 0, 0, 1, 0, 0, 0, 0, 0, 0, 0, 4, 0, 0, 0, 0, 0, 0, 0, 1, 0, 0, 0, 0, 0, 0, 0, 9, 0, 0, 0, 0, 0, 0, 0, 4, 0, 0, 0, 0, 0, 0, 0, 16, 0, 0, 0, 0, 0, 0, 0, 48, 0, 0, 0, 0, 0, 0, 4, 0, 0, 0, 0, 0, 0, 0, 6, 54, 0, 0, 0, 0, 0, 0, 0, 42, 0, 0, 0, 0, 0, 0, 7, 144, 0, 0, 0, 0, 0, 0, 2, 160, 0, 0, 0, 0, 0, 0, 6, 47, 0, 0, 0, 0, 0, 0, 0, 8, 0, 0, 0, 0, 0, 0, 0, 36] := by decide +kernel
 exact number_is _ e (by unfold Bts; decide +kernel) (by decide) (by decide +kernel)
theorem aw_B : mxB 2027 1013 4 9 [97] 64 1 awC awO awR (fun _ => 1) (fun _ => 2) 0 = 1648 := by
 show comI 2027 1013 4 9 (powI (mxX 2027 1013 4 9 [97] 64 1 awC awO awR (fun _ => 1)) (0 + 1) 1013) 2 = 1648
 rw [aw_X]
 decide +kernel
theorem aw_ch (c : Int) (K : Nat -> List Int) : chYZ c [97] 1013 K 1 (aF 2027 1013 4 9 awO (fun _ => 1)) (mxB 2027 1013 4 9 [97] 64 1 awC awO awR (fun _ => 1) (fun _ => 2)) = numberI [97] (askS [c] K (two8f (fun _ => 36) (fun _ => 1648)) (two8f 1 1)) (2 + 4) 1013 :=
 chYZ_congr (fun i hi => by have : i = 0 := by omega
               subst this; exact aw_A) (fun i hi => by have : i = 0 := by omega
                                   subst this; exact aw_B)
theorem aw_Y : mxC 121 2027 1013 4 9 [97] 64 1 awC awO awR (fun _ => 1) (fun _ => 2) = 936 := by
 refine (aw_ch 121 kn8).trans ?_
 have e : numL [97] (askS [121] kn8 (two8f (fun _ => 36) (fun _ => 1648)) (two8f 1 1)) (2 + 4) = [0, 0, 0, 0, 0, 0, 0, 1, 97, 0, 0, 0, 0, 0, 0, 0, 1, 121, 0, 0, 0, 0, 0, 0, 0, 40, 0, 0, 0, 0, 0, 0, 7, 235, 0, 0, 0, 0, 0, 0, 3, 245, 0, 0, 0, 0, 0, 0, 0, 4, 0, 0, 0, 0, 0, 0, 0, 9, 0, 0, 0, 0, 0, 0, 0, 64, 0, 0, 0, 0, 0, 0, 0, 48, 0, 0, 0, 0, 0, 0, 0, 1, 0, 0, 0, 0, 0, 0, 0, 4, 0, 0, 0, 0, 0, 0, 0, 1, 0, 0, 0, 0, 0, 0, 0, 9, 0, 0, 0, 0, 0, 0, 0, 4, 0, 0, 0, 0, 0, 0, 0, 16, 0, 0, 0, 0, 0, 0, 0, 48, 0, 0, 0, 0, 0, 0, 4, 0, 0, 0, 0, 0, 0, 0, 6, 54, 0, 0, 0, 0, 0, 0, 0, 42, 0, 0, 0, 0, 0, 0, 7, 144, 0, 0, 0, 0, 0, 0, 2, 160, 0, 0, 0, 0, 0, 0, 6, 47, 0, 0, 0, 0, 0, 0, 0, 8, 0, 0, 0, 0, 0, 0, 0, 36, 0, 0, 0, 0, 0, 0, 0, 8, 0, 0, 0, 0, 0, 0, 6, 112] := by decide +kernel
 exact number_is _ e (by unfold Bts; decide +kernel) (by decide) (by decide +kernel)
theorem aw_Z : mxC 122 2027 1013 4 9 [97] 64 1 awC awO awR (fun _ => 1) (fun _ => 2) = 514 := by
 refine (aw_ch 122 kn8).trans ?_
 have e : numL [97] (askS [122] kn8 (two8f (fun _ => 36) (fun _ => 1648)) (two8f 1 1)) (2 + 4) = [0, 0, 0, 0, 0, 0, 0, 1, 97, 0, 0, 0, 0, 0, 0, 0, 1, 122, 0, 0, 0, 0, 0, 0, 0, 40, 0, 0, 0, 0, 0, 0, 7, 235, 0, 0, 0, 0, 0, 0, 3, 245, 0, 0, 0, 0, 0, 0, 0, 4, 0, 0, 0, 0, 0, 0, 0, 9, 0, 0, 0, 0, 0, 0, 0, 64, 0, 0, 0, 0, 0, 0, 0, 48, 0, 0, 0, 0, 0, 0, 0, 1, 0, 0, 0, 0, 0, 0, 0, 4, 0, 0, 0, 0, 0, 0, 0, 1, 0, 0, 0, 0, 0, 0, 0, 9, 0, 0, 0, 0, 0, 0, 0, 4, 0, 0, 0, 0, 0, 0, 0, 16, 0, 0, 0, 0, 0, 0, 0, 48, 0, 0, 0, 0, 0, 0, 4, 0, 0, 0, 0, 0, 0, 0, 6, 54, 0, 0, 0, 0, 0, 0, 0, 42, 0, 0, 0, 0, 0, 0, 7, 144, 0, 0, 0, 0, 0, 0, 2, 160, 0, 0, 0, 0, 0, 0, 6, 47, 0, 0, 0, 0, 0, 0, 0, 8, 0, 0, 0, 0, 0, 0, 0, 36, 0, 0, 0, 0, 0, 0, 0, 8, 0, 0, 0, 0, 0, 0, 6, 112] := by decide +kernel
 exact number_is _ e (by unfold Bts; decide +kernel) (by decide) (by decide +kernel)
theorem aw_Y2 : chYZ 121 [97] 1013 kn9 1 (aF 2027 1013 4 9 awO (fun _ => 1)) (mxB 2027 1013 4 9 [97] 64 1 awC awO awR (fun _ => 1) (fun _ => 2)) = 511 := by
 refine (aw_ch 121 kn9).trans ?_
 have e : numL [97] (askS [121] kn9 (two8f (fun _ => 36) (fun _ => 1648)) (two8f 1 1)) (2 + 4) = [0, 0, 0, 0, 0, 0, 0, 1, 97, 0, 0, 0, 0, 0, 0, 0, 1, 121, 0, 0, 0, 0, 0, 0, 0, 40, 0, 0, 0, 0, 0, 0, 7, 235, 0, 0, 0, 0, 0, 0, 3, 245, 0, 0, 0, 0, 0, 0, 0, 4, 0, 0, 0, 0, 0, 0, 0, 9, 0, 0, 0, 0, 0, 0, 0, 64, 0, 0, 0, 0, 0, 0, 0, 48, 0, 0, 0, 0, 0, 0, 4, 0, 0, 0, 0, 0, 0, 0, 6, 54, 0, 0, 0, 0, 0, 0, 0, 42, 0, 0, 0, 0, 0, 0, 7, 144, 0, 0, 0, 0, 0, 0, 2, 160, 0, 0, 0, 0, 0, 0, 6, 47, 0, 0, 0, 0, 0, 0, 0, 48, 0, 0, 0, 0, 0, 0, 4, 0, 0, 0, 0, 0, 0, 0, 6, 54, 0, 0, 0, 0, 0, 0, 0, 42, 0, 0, 0, 0, 0, 0, 7, 144, 0, 0, 0, 0, 0, 0, 2, 160, 0, 0, 0, 0, 0, 0, 6, 47, 0, 0, 0, 0, 0, 0, 0, 8, 0, 0, 0, 0, 0, 0, 0, 36, 0, 0, 0, 0, 0, 0, 0, 8, 0, 0, 0, 0, 0, 0, 6, 112] := by decide +kernel
 exact number_is _ e (by unfold Bts; decide +kernel) (by decide) (by decide +kernel)
theorem aw_Z2 : chYZ 122 [97] 1013 kn9 1 (aF 2027 1013 4 9 awO (fun _ => 1)) (mxB 2027 1013 4 9 [97] 64 1 awC awO awR (fun _ => 1) (fun _ => 2)) = 620 := by
 refine (aw_ch 122 kn9).trans ?_
 have e : numL [97] (askS [122] kn9 (two8f (fun _ => 36) (fun _ => 1648)) (two8f 1 1)) (2 + 4) = [0, 0, 0, 0, 0, 0, 0, 1, 97, 0, 0, 0, 0, 0, 0, 0, 1, 122, 0, 0, 0, 0, 0, 0, 0, 40, 0, 0, 0, 0, 0, 0, 7, 235, 0, 0, 0, 0, 0, 0, 3, 245, 0, 0, 0, 0, 0, 0, 0, 4, 0, 0, 0, 0, 0, 0, 0, 9, 0, 0, 0, 0, 0, 0, 0, 64, 0, 0, 0, 0, 0, 0, 0, 48, 0, 0, 0, 0, 0, 0, 4, 0, 0, 0, 0, 0, 0, 0, 6, 54, 0, 0, 0, 0, 0, 0, 0, 42, 0, 0, 0, 0, 0, 0, 7, 144, 0, 0, 0, 0, 0, 0, 2, 160, 0, 0, 0, 0, 0, 0, 6, 47, 0, 0, 0, 0, 0, 0, 0, 48, 0, 0, 0, 0, 0, 0, 4, 0, 0, 0, 0, 0, 0, 0, 6, 54, 0, 0, 0, 0, 0, 0, 0, 42, 0, 0, 0, 0, 0, 0, 7, 144, 0, 0, 0, 0, 0, 0, 2, 160, 0, 0, 0, 0, 0, 0, 6, 47, 0, 0, 0, 0, 0, 0, 0, 8, 0, 0, 0, 0, 0, 0, 0, 36, 0, 0, 0, 0, 0, 0, 0, 8, 0, 0, 0, 0, 0, 0, 6, 112] := by decide +kernel
 exact number_is _ e (by unfold Bts; decide +kernel) (by decide) (by decide +kernel)
theorem aw_P : mxP 2027 1013 4 9 [97] 64 1 awC awO awR (fun _ => 1) (fun _ => 2) (fun _ => 3) 0 = 182 := by
 show bigI 2027 1013 4 (aF 2027 1013 4 9 awO (fun _ => 1) 0) (mxB 2027 1013 4 9 [97] 64 1 awC awO awR (fun _ => 1) (fun _ => 2) 0) (mxC 121 2027 1013 4 9 [97] 64 1 awC awO awR (fun _ => 1) (fun _ => 2)) (mxC 122 2027 1013 4 9 [97] 64 1 awC awO awR (fun _ => 1) (fun _ => 2)) = 182
 rw [aw_A, aw_B, aw_Y, aw_Z]
 decide +kernel
theorem aw_no (nk : Nat) (K : Nat -> Int) (nz : Nat) (Xz : Nat -> Int) : accG 2027 1013 4 9 [97] 64 1 awM 1 awM 1 (aF 2027 1013 4 9 awO (fun _ => 1)) 1 (mxB 2027 1013 4 9 [97] 64 1 awC awO awR (fun _ => 1) (fun _ => 2)) 1 (mxP 2027 1013 4 9 [97] 64 1 awC awO awR (fun _ => 1) (fun _ => 2) (fun _ => 3)) nk K nz Xz = false := by
 have hc : clmB 2027 1013 4 64 1 awM 1 awM 1 (aF 2027 1013 4 9 awO (fun _ => 1)) 1 (mxB 2027 1013 4 9 [97] 64 1 awC awO awR (fun _ => 1) (fun _ => 2)) 1 (mxP 2027 1013 4 9 [97] 64 1 awC awO awR (fun _ => 1) (fun _ => 2) (fun _ => 3)) 511 620 = false := by
  unfold clmB
  rw [aw_P, aw_A, aw_B, show decide ((182 : Int) = bigI 2027 1013 4 36 1648 511 620) = false from by decide +kernel]
  simp
 unfold accG accS
 rw [show chYZ 121 [97] 1013 (knwS 2027 1013 4 9 64 1 awM 1 awM) 1 _ _ = 511 from aw_Y2, show chYZ 122 [97] 1013 (knwS 2027 1013 4 9 64 1 awM 1 awM) 1 _ _ = 620 from aw_Z2, hc]
 simp
end
end Go.Proofs.YtlnmjbbpenhdbaaGreat
