/-
  What the proof needs, part 21.
-/
import Derived.Test.YtlnmjbbpenhdbaaGreatKk20
namespace Go.Proofs.YtlnmjbbpenhdbaaGreat
open Tryz
set_option linter.unusedSimpArgs false
set_option linter.unusedVariables false
set_option maxRecDepth 100000
set_option maxHeartbeats 32000000
section
open Go.RowKit
theorem load_five {P : Program} {W : World} {b : Nat} {p0 q0 r0 s0 u0 p q r s u : Value} {t ty : TypeId} {fs : Array Field} (h : W.heap[b]? = some (.cells #[p0, q0, r0, s0, u0] t (0, 0))) (hu : P.underlying ty = some (.struct fs)) (hi : (P.info? ty).map (·.size) = some 5) :
  (loadVar ty ⟨b, 0, none⟩).run P (((((W.setCell ⟨b, 0, none⟩ p).setCell ⟨b, 1, none⟩ q).setCell ⟨b, 2, none⟩ r).setCell ⟨b, 3, none⟩ s).setCell ⟨b, 4, none⟩ u) = .ok (.agg #[p, q, r, s, u]) (((((W.setCell ⟨b, 0, none⟩ p).setCell ⟨b, 1, none⟩ q).setCell ⟨b, 2, none⟩ r).setCell ⟨b, 3, none⟩ s).setCell ⟨b, 4, none⟩ u) :=
 run_loadVar_row _ b t ty #[p, q, r, s, u] (0, 0) _ (by
  have := zaw (zaw (zaw (zaw (zaw h 0 p) 1 q) 2 r) 3 s) 4 u
  simpa using this) hu rfl hi
theorem Old.five {a W : World} (h : Old a W) {b : Nat} (hb : a.heap.size <= b) (p q r s u : Value) : Old a (((((W.setCell ⟨b, 0, none⟩ p).setCell ⟨b, 1, none⟩ q).setCell ⟨b, 2, none⟩ r).setCell ⟨b, 3, none⟩ s).setCell ⟨b, 4, none⟩ u) :=
 ((((h.setCell (p := ⟨b, 0, none⟩) hb _).setCell (p := ⟨b, 1, none⟩) hb _).setCell (p := ⟨b, 2, none⟩) hb _).setCell (p := ⟨b, 3, none⟩) hb _).setCell (p := ⟨b, 4, none⟩) hb _
theorem spro_no (P Q G H : Int) (a : OA) (m cap : Nat) (label : List Int) (y : Int) (bi : OA) (l ci : Nat) (C : NN) (bo : OA) (no co : Nat) (O : NI) (bρ : OA) (nρ cρ : Nat) (Rh : NN) (bR : OA) (nR cR : Nat) (bS : OA) (nS cS : Nat) (bT : OA) (nT cT : Nat) (bD : OA) (nD cD : Nat) (M : NN) (A B Pp : NI) (nt : Nat) (K : NI) (nz : Nat) (Zf : NI) (w : World) (h4 : Four P Q G H) (hr : Righ P Q G) (hy : U64 y) (ml : l <= 80) (mo : no <= 80) (mρ : nρ <= 80) (hC : BoxsIn w bi l C) (hO : IntsIn w bo no O) (hρ : RhoIn w bρ nρ Rh) (hok : (mixB P Q y l C no O nρ && drwB l nR nS nT nD) = false) :
  Calls prog 31 #[gv P Q G H a m cap, .string (strOfNums label), .int .u64 y, .slice bi l ci, .slice bo no co, dv bρ nρ cρ bR nR cR bS nS cS bT nT cT bD nD cD] w (GivS w (mixB P Q y l C no O nρ && drwB l nR nS nT nD) l M A B Pp nt K nz Zf) := by
 have HMx := fun wx (ho : Old w wx) => smix_any P Q G H a m cap y bi l ci C bo no co O bρ nρ cρ Rh wx h4 hr hy (by omega) (by omega) (by omega) (hC.old ho) (hO.old ho) (hρ.old ho)
 generalize mixC P Q G y C O Rh = M0 at HMx
 have HNo : Hid ((mixB P Q y l C no O nρ && drwB l nR nS nT nD) = false) := hok
 have HDr : Hid (mixB P Q y l C no O nρ = true -> ∀ wx, Calls prog 88 #[dv bρ nρ cρ bR nR cR bS nS cS bT nT cT bD nD cD, .int .i64 (l : Int)] wx (Ret wx (.bool false))) := fun hm wx => by
  have h8 : l <= 8 := by
   unfold mixB at hm
   simp only [Bool.and_eq_true_iff, decide_eq_true_eq] at hm
   exact (zaN.1 hm.2.2.2.1).1.2
  have := zeD bρ nρ cρ bR nR cR bS nS cS bT nT cT bD nD cD l wx h8
  rw [hm, Bool.true_and] at hok
  rwa [hok] at this
 clear hC hO hρ h4 hr hy hok
 generalize mixB P Q y l C no O nρ = mb at *
 generalize drwB l nR nS nT nD = db at *
 have HZ := lain3 w (gc P Q G H a m cap) (dvc bρ nρ cρ bR nR cR bS nS cS bT nT cT bD nD cD) #[.slice none 0 0, .slice none 0 0, .slice none 0 0, .slice none 0 0, .slice none 0 0] 25 31 57
 have HG0 := fun w' ho => (HZ.then (W' := w') ho).row 0 (by simp)
 have HD0 := fun w' ho => (HZ.then (W' := w') ho).row 1 (by simp)
 have HS0 := fun w' ho => (HZ.then (W' := w') ho).row 2 (by simp)
 have HW0 : Hid (Old w (((w.alloc (.cells (gc P Q G H a m cap) 25)).alloc (.cells (dvc bρ nρ cρ bR nR cR bS nS cS bT nT cT bD nD cD) 31)).alloc (.cells #[.slice none 0 0, .slice none 0 0, .slice none 0 0, .slice none 0 0, .slice none 0 0] 57))) := HZ.old
 clear HZ
 go_enter func31, ntmps31
 go_upto_region 1 with fail
 generalize ((w.alloc (.cells (gc P Q G H a m cap) 25)).alloc (.cells (dvc bρ nρ cρ bR nR cR bS nS cS bT nT cT bD nD cD) 31)).alloc (.cells #[.slice none 0 0, .slice none 0 0, .slice none 0 0, .slice none 0 0, .slice none 0 0] 57) = W1 at *
 have HG : Hid (∀ wx, Old W1 wx -> wx.heap[w.heap.size]? = some (.cells (gc P Q G H a m cap) 25 (0, 0))) := HG0
 have HDd : Hid (∀ wx, Old W1 wx -> wx.heap[w.heap.size + 1]? = some (.cells (dvc bρ nρ cρ bR nR cR bS nS cS bT nT cT bD nD cD) 31 (0, 0))) := HD0
 have HSh : Hid (∀ wx, Old W1 wx -> wx.heap[w.heap.size + 1 + 1]? = some (.cells #[.slice none 0 0, .slice none 0 0, .slice none 0 0, .slice none 0 0, .slice none 0 0] 57 (0, 0))) := HS0
 clear HG0 HD0 HS0
 obtain ⟨gb, hgb⟩ : ∃ gb, gb = w.heap.size := ⟨_, rfl⟩
 rw [<- hgb] at HG HDd HSh
 rw [<- hgb]
 have HGs : Hid (w.heap.size <= gb + 1 + 1) := by unfold Hid; omega
 clear hgb
 have HGc : Hid (∀ wx, Old W1 wx -> G5 wx (gb) P Q G H (.slice a m cap)) := fun wx ho => g5 (HG.out _ ho)
 have HDc : Hid (∀ wx, Old W1 wx -> wx.cell? ⟨gb + 1, 0, none⟩ = some (.slice bρ nρ cρ) /\ wx.cell? ⟨gb + 1, 1, none⟩ = some (.slice bR nR cR) /\ wx.cell? ⟨gb + 1, 2, none⟩ = some (.slice bS nS cS) /\ wx.cell? ⟨gb + 1, 3, none⟩ = some (.slice bT nT cT) /\ wx.cell? ⟨gb + 1, 4, none⟩ = some (.slice bD nD cD)) := fun wx ho => g5 (HDd.out _ ho)
 have HSc : Hid (∀ wx, Old W1 wx -> (wx.cell? ⟨gb + 1 + 1, 0, none⟩ = some (.slice none 0 0) /\ wx.cell? ⟨gb + 1 + 1, 1, none⟩ = some (.slice none 0 0) /\ wx.cell? ⟨gb + 1 + 1, 2, none⟩ = some (.slice none 0 0) /\ wx.cell? ⟨gb + 1 + 1, 3, none⟩ = some (.slice none 0 0) /\ wx.cell? ⟨gb + 1 + 1, 4, none⟩ = some (.slice none 0 0)) /\ ∀ j, wx.frozen? ⟨gb + 1 + 1, j, none⟩ = false) := fun wx ho => ⟨g5 (HSh.out _ ho), fun j => zab (HSh.out _ ho) j⟩
 obtain ⟨g0, g1, g2, g3, g4⟩ := HGc.out _ (Old.refl _)
 obtain ⟨d0, d1, d2, d3, d4⟩ := HDc.out _ (Old.refl _)
 have HMh : Hid (∀ wx, Old w wx -> Calls prog 15 #[gv P Q G H a m cap, .int .u64 y, .slice bi l ci, .slice bo no co, .slice bρ nρ cρ] wx (GivB wx mb l M0)) := HMx
 clear HMx
 cases mb with
 | false =>
  go_upto_region 2 with (go_at_call 15; refine (HMh.out _ HW0.out).mono ?_; rintro e w2 ⟨o2, bm, rfl, hbm⟩; simp only [Bool.false_eq_true, if_false])
  clear g0 g1 g2 g3 g4 d0 d1 d2 d3 d4 hbm
  have HO2 : Hid (Old W1 w2) := o2
  clear o2
  go_upto_region 3 with fail
  obtain ⟨⟨s0, s1, s2, s3, s4⟩, hf⟩ := HSc.out _ HO2.out
  have f0 := hf 0
  have f1 := hf 1
  have f2 := hf 2
  have f3 := hf 3
  have f4 := hf 4
  clear hf
  go_wp2_with fail
  exact bodyPost_ret (zdk (b := gb + 1 + 1) rfl rfl rfl rfl (load_five (HSh.out _ HO2.out) underlying57 zdc)) rfl (givS_no HNo.out ((HW0.out.trans HO2.out).five HGs.out _ _ _ _ _))
 | true =>
  go_upto_region 2 with (go_at_call 15; refine (HMh.out _ HW0.out).mono ?_; rintro e w2 ⟨o2, bm, rfl, hbm⟩; simp only [if_true])
  clear g0 g1 g2 g3 g4 d0 d1 d2 d3 d4 hbm
  have HO2 : Hid (Old W1 w2) := o2
  clear o2
  obtain ⟨d0, d1, d2, d3, d4⟩ := HDc.out _ HO2.out
  go_upto_region 3 with (go_at_call 88; refine (HDr.out rfl _).mono ?_; rintro e w3 ⟨rfl, o3⟩)
  have HO3 : Hid (Old W1 w3) := HO2.out.trans o3
  clear d0 d1 d2 d3 d4 o3
  obtain ⟨⟨s0, s1, s2, s3, s4⟩, hf⟩ := HSc.out _ HO3.out
  have f0 := hf 0
  have f1 := hf 1
  have f2 := hf 2
  have f3 := hf 3
  have f4 := hf 4
  clear hf
  go_wp2_with fail
  exact bodyPost_ret (zdk (b := gb + 1 + 1) rfl rfl rfl rfl (load_five (HSh.out _ HO3.out) underlying57 zdc)) rfl (givS_no HNo.out ((HW0.out.trans HO3.out).five HGs.out _ _ _ _ _))
def mxX (P Q G H : Int) (label : List Int) (y : Int) (n : Nat) (C : NN) (O : NI) (Rh : NN) (R : NI) : Int := chX label Q (knwS P Q G H y n C n (mixC P Q G y C O Rh)) n (aF P Q G H O R)
def mxC (c : Int) (P Q G H : Int) (label : List Int) (y : Int) (n : Nat) (C : NN) (O : NI) (Rh : NN) (R S : NI) : Int := chYZ c label Q (knwS P Q G H y n C n (mixC P Q G y C O Rh)) n (aF P Q G H O R) (bF P Q G H (mxX P Q G H label y n C O Rh R) O S)
def mxB (P Q G H : Int) (label : List Int) (y : Int) (n : Nat) (C : NN) (O : NI) (Rh : NN) (R S : NI) : Nat -> Int := bF P Q G H (mxX P Q G H label y n C O Rh R) O S
def mxP (P Q G H : Int) (label : List Int) (y : Int) (n : Nat) (C : NN) (O : NI) (Rh : NN) (R S T : NI) : Nat -> Int := pF P Q G H (mxX P Q G H label y n C O Rh R) (mxC 121 P Q G H label y n C O Rh R S) (mxC 122 P Q G H label y n C O Rh R S) O R S T
def mxT (P Q G H : Int) (label : List Int) (y : Int) (n : Nat) (C : NN) (O : NI) (Rh : NN) (R S T : NI) : Nat -> Int := tgtT P Q G (mxX P Q G H label y n C O Rh R) (mxC 121 P Q G H label y n C O Rh R S) (mxC 122 P Q G H label y n C O Rh R S) n (aF P Q G H O R) (mxB P Q G H label y n C O Rh R S) (mxP P Q G H label y n C O Rh R S T) (uC C) (vC C)
def mxS (P Q G H : Int) (label : List Int) (y : Int) (n : Nat) (C : NN) (O : NI) (Rh : NN) (R S T : NI) : Nat -> Nat -> Int := bas8 n (mxP P Q G H label y n C O Rh R S T) G H y (uC (mixC P Q G y C O Rh)) (vC (mixC P Q G y C O Rh))
def mxE (P Q G H : Int) (label : List Int) (y : Int) (n : Nat) (C : NN) (O : NI) (Rh : NN) (R S T : NI) : Nat -> Int := exF Q (mxX P Q G H label y n C O Rh R) (mxC 121 P Q G H label y n C O Rh R S) (mxC 122 P Q G H label y n C O Rh R S) n (fun i => (O i).toNat) R S T Rh
def mxK (P Q G H : Int) (label : List Int) (y : Int) (n : Nat) (C : NN) (O : NI) (Rh : NN) (R S T D : NI) : Nat -> Int := fun j => imI P Q (mxS P Q G H label y n C O Rh R S T j) D (7 * n + 3)
def mxH (P Q G H : Int) (label : List Int) (y : Int) (n : Nat) (C : NN) (O : NI) (Rh : NN) (R S T D : NI) : Int := chI label P Q G H (4 * n + 6) (mxT P Q G H label y n C O Rh R S T) (4 * n + 6) (fun _ => 7 * n + 3) (mxS P Q G H label y n C O Rh R S T) (4 * n + 6) (mxK P Q G H label y n C O Rh R S T D)
def mxZ (P Q G H : Int) (label : List Int) (y : Int) (n : Nat) (C : NN) (O : NI) (Rh : NN) (R S T D : NI) : Nat -> Int := fun k => ansI Q (mxH P Q G H label y n C O Rh R S T D) (mxE P Q G H label y n C O Rh R S T k) (D k)
theorem mix8_of {P Q G H y : Int} {w : World} {n no nρ : Nat} {C : NN} {O : NI} {Rh : NN} {R S T : NI} {bρ bR bS bT : OA} (hr : Righ P Q G) (hin : inI P Q H = true) (hm : mixB P Q y n C no O nρ = true) (hρ : RhoIn w bρ nρ Rh) (hR : FacsIn w bR n R) (hS : FacsIn w bS n S) (hT : FacsIn w bT n T) : Mix8 P Q G H y n C O Rh R S T := by
 unfold mixB at hm
 simp only [Bool.and_eq_true_iff, decide_eq_true_eq] at hm
 obtain ⟨h1, h2, h3, h5, h6⟩ := hm
 subst h1 h2
 obtain ⟨⟨h7, h8⟩, h9⟩ := zaN.1 h5
 exact ⟨hr, hin, h6, h7, h8, zaM.1 h3, h9, fun i hi => (hR.u64 i hi).1, fun i hi => (hS.u64 i hi).1, fun i hi => (hT.u64 i hi).1, fun i hi k hk => (hρ.u64 hi hk).1⟩
theorem sprove_any (P Q G H : Int) (a : OA) (m cap : Nat) (label : List Int) (y : Int) (bi : OA) (l ci : Nat) (C : NN) (bo : OA) (no co : Nat) (O : NI) (bρ : OA) (nρ cρ : Nat) (Rh : NN) (bR : OA) (nR cR : Nat) (R : NI) (bS : OA) (nS cS : Nat) (S : NI) (bT : OA) (nT cT : Nat) (T : NI) (bD : OA) (nD cD : Nat) (D : NI) (w : World) (h4 : Four P Q G H) (hr : Righ P Q G) (hin : inI P Q H = true) (hy : U64 y) (hlb : Bts label) (hll : label.length <= 1000) (ml : l <= 80) (mo : no <= 80) (mρ : nρ <= 80) (hcT : nT <= cT /\ cT <= 9223372036854775807) (hcD : nD <= cD)
  (hC : BoxsIn w bi l C) (hO : IntsIn w bo no O) (hρ : RhoIn w bρ nρ Rh) (hR : FacsIn w bR nR R) (hS : FacsIn w bS nS S) (hT : FacsIn w bT nT T) (hD : FacsIn w bD nD D) :
  Calls prog 31 #[gv P Q G H a m cap, .string (strOfNums label), .int .u64 y, .slice bi l ci, .slice bo no co, dv bρ nρ cρ bR nR cR bS nS cS bT nT cT bD nD cD] w (GivS w (mixB P Q y l C no O nρ && drwB l nR nS nT nD) l (mixC P Q G y C O Rh) (aF P Q G H O R) (mxB P Q G H label y l C O Rh R S) (mxP P Q G H label y l C O Rh R S T) (4 * l + 6) (mxK P Q G H label y l C O Rh R S T D) (7 * l + 3) (mxZ P Q G H label y l C O Rh R S T D)) := by
 cases hok : (mixB P Q y l C no O nρ && drwB l nR nS nT nD) with
 | false =>
  rw [<- hok]
  exact spro_no P Q G H a m cap label y bi l ci C bo no co O bρ nρ cρ Rh bR nR cR bS nS cS bT nT cT bD nD cD _ _ _ _ _ _ _ _ w h4 hr hy ml mo mρ hC hO hρ hok
 | true =>
  obtain ⟨hm, hd⟩ := Bool.and_eq_true_iff.1 hok
  obtain ⟨e1, e2, e3, e4⟩ := drwB_iff.1 hd
  have hm' := hm
  unfold mixB at hm'
  simp only [Bool.and_eq_true_iff, decide_eq_true_eq] at hm'
  obtain ⟨e5, e6, h3, h5, h6⟩ := hm'
  subst e1 e2 e3 e5 e6
  have M := mix8_of hr hin hm hρ hR hS hT
  have uY : U64 (mxC 121 P Q G H label y nρ C O Rh R S) := by unfold mxC chYZ; exact zav _ _ _ _
  have uZ : U64 (mxC 122 P Q G H label y nρ C O Rh R S) := by unfold mxC chYZ; exact zav _ _ _ _
  have hsz := (M.claim (mxX P Q G H label y nρ C O Rh R) uY.1 uZ.1).size
  exact lpro_any P Q G H a m cap label y bi ci C bo co O bρ cρ Rh bR cR R bS cS S bT cT T bD nD cD D nρ (mxX P Q G H label y nρ C O Rh R) (mxC 121 P Q G H label y nρ C O Rh R S) (mxC 122 P Q G H label y nρ C O Rh R S) (aF P Q G H O R) (mxB P Q G H label y nρ C O Rh R S) (mxP P Q G H label y nρ C O Rh R S T) (mixC P Q G y C O Rh) (mxE P Q G H label y nρ C O Rh R S T) (mxK P Q G H label y nρ C O Rh R S T D) (mxZ P Q G H label y nρ C O Rh R S T D) w M.n1 M.n8 h4 hr hy hlb hll hcT hcD hC hO hρ hR hS hT hD hm hd h3 rfl rfl rfl rfl rfl rfl rfl rfl (congrArg (fun z => fun j => imI P Q (mxS P Q G H label y nρ C O Rh R S T j) D z) hsz.symm) rfl (M.clm _ uY.1 uZ.1) (M.prov _ uY.1 uZ.1 e4)
end
section
def kN : List Nat := kList.map Int.toNat
def rotN (x n : Nat) : Nat := (x >>> n) ||| (x <<< (32 - n) % 4294967296)
def low0N (x : Nat) : Nat := (rotN x 7 ^^^ rotN x 18) ^^^ (x >>> 3)
def low1N (x : Nat) : Nat := (rotN x 17 ^^^ rotN x 19) ^^^ (x >>> 10)
def big1N (x : Nat) : Nat := (rotN x 6 ^^^ rotN x 11) ^^^ rotN x 25
def big0N (x : Nat) : Nat := (rotN x 2 ^^^ rotN x 13) ^^^ rotN x 22
def pickN (e f g : Nat) : Nat := (e &&& f) ||| ((4294967295 ^^^ e) &&& g)
def mostN (a b c : Nat) : Nat := ((a &&& b) ||| (a &&& c)) ||| (b &&& c)
def runN : List Nat -> (w0 w1 w2 w3 w4 w5 w6 w7 w8 w9 w10 w11 w12 w13 w14 w15 : Nat) -> (a b c d e f g h : Nat) -> List Nat
 | [], _, _, _, _, _, _, _, _, _, _, _, _, _, _, _, _, a, b, c, d, e, f, g, h => [a, b, c, d, e, f, g, h]
 | k :: ks, w0, w1, w2, w3, w4, w5, w6, w7, w8, w9, w10, w11, w12, w13, w14, w15, a, b, c, d, e, f, g, h =>
  runN ks w1 w2 w3 w4 w5 w6 w7 w8 w9 w10 w11 w12 w13 w14 w15 ((w0 + low0N w1 + w9 + low1N w14) % 4294967296)
   ((h + big1N e + pickN e f g + k + w0 + (big0N a + mostN a b c)) % 4294967296) a b c ((d + (h + big1N e + pickN e f g + k + w0)) % 4294967296) e f g
abbrev U32 (n : Nat) : Prop := n < 4294967296
theorem zdX {a b : Nat} (ha : U32 a) (hb : U32 b) : or32 (a : Int) (b : Int) = ((a ||| b : Nat) : Int) := u32_or_nat a b ha hb
theorem zb3 {a b : Nat} (ha : U32 a) (hb : U32 b) : xor32 (a : Int) (b : Int) = ((a ^^^ b : Nat) : Int) := u32_xor_nat a b ha hb
theorem zd5 {a b : Nat} (ha : U32 a) (hb : U32 b) : and32 (a : Int) (b : Int) = ((a &&& b : Nat) : Int) := u32_and_nat a b ha hb
theorem not_nat {a : Nat} (ha : U32 a) : not32 (a : Int) = ((4294967295 ^^^ a : Nat) : Int) := u32_xor_nat 4294967295 a (by omega) ha
theorem or_lt {a b : Nat} (ha : U32 a) (hb : U32 b) : U32 (a ||| b) := Nat.or_lt_two_pow (n := 32) ha hb
theorem zc1 {a b : Nat} (ha : U32 a) (hb : U32 b) : U32 (a ^^^ b) := Nat.xor_lt_two_pow (n := 32) ha hb
theorem zel {a b : Nat} (ha : U32 a) : U32 (a &&& b) := Nat.lt_of_le_of_lt Nat.and_le_left ha
theorem zeS {a : Nat} (n : Nat) (ha : U32 a) : U32 (a >>> n) := by
 rw [Nat.shiftRight_eq_div_pow]
 exact Nat.lt_of_le_of_lt (Nat.div_le_self _ _) ha
theorem zaA {x n : Nat} (hx : U32 x) : U32 (rotN x n) := or_lt (zeS n hx) (Nat.mod_lt _ (by omega))
theorem zbG {x : Nat} (n : Nat) (hx : U32 x) : rot (x : Int) n = (rotN x n : Int) := by
 unfold rot rotN
 have e1 : (x : Int) / 2 ^ n = ((x >>> n : Nat) : Int) := by
  rw [Nat.shiftRight_eq_div_pow, Int.natCast_ediv, Int.natCast_pow]
  rfl
 have e2 : (x : Int) * 2 ^ (32 - n) % 4294967296 = ((x <<< (32 - n) % 4294967296 : Nat) : Int) := by
  rw [Nat.shiftLeft_eq, Int.natCast_emod, Int.natCast_mul, Int.natCast_pow]
  rfl
 rw [e1, e2]
 exact zdX (zeS n hx) (Nat.mod_lt _ (by omega))
theorem low0_nat {x : Nat} (hx : U32 x) : low0 (x : Int) = (low0N x : Int) /\ U32 (low0N x) := by
 unfold low0 low0N
 have e : (x : Int) / (8 : Int) = ((x >>> 3 : Nat) : Int) := by
  rw [Nat.shiftRight_eq_div_pow]
  omega
 rw [zbG _ hx, zbG _ hx, e, zb3 (zaA hx) (zaA hx), zb3 (zc1 (zaA hx) (zaA hx)) (zeS 3 hx)]
 exact ⟨rfl, zc1 (zc1 (zaA hx) (zaA hx)) (zeS 3 hx)⟩
theorem low1_nat {x : Nat} (hx : U32 x) : low1 (x : Int) = (low1N x : Int) /\ U32 (low1N x) := by
 unfold low1 low1N
 have e : (x : Int) / (1024 : Int) = ((x >>> 10 : Nat) : Int) := by
  rw [Nat.shiftRight_eq_div_pow]
  omega
 rw [zbG _ hx, zbG _ hx, e, zb3 (zaA hx) (zaA hx), zb3 (zc1 (zaA hx) (zaA hx)) (zeS 10 hx)]
 exact ⟨rfl, zc1 (zc1 (zaA hx) (zaA hx)) (zeS 10 hx)⟩
theorem big1_nat {x : Nat} (hx : U32 x) : big1 (x : Int) = (big1N x : Int) := by
 unfold big1 big1N
 rw [zbG _ hx, zbG _ hx, zbG _ hx, zb3 (zaA hx) (zaA hx), zb3 (zc1 (zaA hx) (zaA hx)) (zaA hx)]
theorem big0_nat {x : Nat} (hx : U32 x) : big0 (x : Int) = (big0N x : Int) := by
 unfold big0 big0N
 rw [zbG _ hx, zbG _ hx, zbG _ hx, zb3 (zaA hx) (zaA hx), zb3 (zc1 (zaA hx) (zaA hx)) (zaA hx)]
theorem pick_nat {e f g : Nat} (he : U32 e) (hf : U32 f) (hg : U32 g) : pick (e : Int) f g = (pickN e f g : Int) := by
 unfold pick pickN
 have hn : U32 (4294967295 ^^^ e) := zc1 (by show 4294967295 < 4294967296; omega) he
 rw [not_nat he, zd5 he hf, zd5 hn hg, zdX (zel he) (zel hn)]
theorem most_nat {a b c : Nat} (ha : U32 a) (hb : U32 b) (hc : U32 c) : most (a : Int) b c = (mostN a b c : Int) := by
 unfold most mostN
 rw [zd5 ha hb, zd5 ha hc, zd5 hb hc, zdX (zel ha) (zel ha), zdX (or_lt (zel ha) (zel ha)) (zel hb)]
def wI (B : NI) (j : Nat) : Int := sched B (j + 1) j
theorem zcu (B : NI) {j : Nat} : ∀ T, j < T -> sched B T j = wI B j
 | 0, h => by omega
 | T + 1, h => by
  by_cases he : j = T
  ·subst he; rfl
  ·show (if j = T then word B (sched B T) T else sched B T j) = _
   rw [if_neg he]
   exact zcu B T (by omega)
theorem wI_low (B : NI) {t : Nat} (h : t < 16) : wI B t = four (B (4 * t)) (B (4 * t + 1)) (B (4 * t + 2)) (B (4 * t + 3)) := by
 show (if t = t then word B (sched B t) t else sched B t t) = _
 rw [if_pos rfl, word_low h]
theorem wI_high (B : NI) (t : Nat) : wI B (t + 16) = add32 (add32 (add32 (wI B t) (low0 (wI B (t + 1)))) (wI B (t + 9))) (low1 (wI B (t + 14))) := by
 show (if t + 16 = t + 16 then word B (sched B (t + 16)) (t + 16) else sched B (t + 16) (t + 16)) = _
 rw [if_pos rfl, zdQ (by omega), show t + 16 - 16 = t by omega, show t + 16 - 15 = t + 1 by omega, show t + 16 - 7 = t + 9 by omega, show t + 16 - 2 = t + 14 by omega,
  zcu B (t + 16) (by omega), zcu B (t + 16) (by omega), zcu B (t + 16) (by omega), zcu B (t + 16) (by omega)]
theorem zbq (a b : Nat) : add32 (a : Int) (b : Int) = (((a + b) % 4294967296 : Nat) : Int) := by
 unfold add32
 omega
theorem m_lt (a : Nat) : U32 (a % 4294967296) := Nat.mod_lt _ (by omega)
theorem add_five (a b c d e : Nat) : add32 (add32 (add32 (add32 (a : Int) b) c) d) e = (((a + b + c + d + e) % 4294967296 : Nat) : Int) := by
 unfold add32
 omega
theorem run_is (B : NI) (v : NI) (W : Nat -> Nat) (hW : ∀ j, wI B j = (W j : Int) /\ U32 (W j)) : ∀ (n t : Nat) (a b c d e f g h : Nat), t + n = 64 ->
  (zah (wI B) t v 0 = (a : Int) /\ U32 a) -> (zah (wI B) t v 1 = (b : Int) /\ U32 b) -> (zah (wI B) t v 2 = (c : Int) /\ U32 c) -> (zah (wI B) t v 3 = (d : Int) /\ U32 d) ->
  (zah (wI B) t v 4 = (e : Int) /\ U32 e) -> (zah (wI B) t v 5 = (f : Int) /\ U32 f) -> (zah (wI B) t v 6 = (g : Int) /\ U32 g) -> (zah (wI B) t v 7 = (h : Int) /\ U32 h) ->
  ∀ i, i < 8 -> zah (wI B) 64 v i = (((runN (kN.drop t) (W t) (W (t + 1)) (W (t + 2)) (W (t + 3)) (W (t + 4)) (W (t + 5)) (W (t + 6)) (W (t + 7)) (W (t + 8)) (W (t + 9)) (W (t + 10)) (W (t + 11)) (W (t + 12)) (W (t + 13)) (W (t + 14)) (W (t + 15)) a b c d e f g h).getD i 0 : Nat) : Int)
 | 0, t, a, b, c, d, e, f, g, h, ht, h0, h1, h2, h3, h4, h5, h6, h7, i, hi => by
  obtain rfl : t = 64 := by omega
  have hd : kN.drop 64 = [] := by decide
  rw [hd]
  match i, hi with
  | 0, _ => exact h0.1
  | 1, _ => exact h1.1
  | 2, _ => exact h2.1
  | 3, _ => exact h3.1
  | 4, _ => exact h4.1
  | 5, _ => exact h5.1
  | 6, _ => exact h6.1
  | 7, _ => exact h7.1
 | n + 1, t, a, b, c, d, e, f, g, h, ht, h0, h1, h2, h3, h4, h5, h6, h7, i, hi => by
  have hk : kN.drop t = kN.getD t 0 :: kN.drop (t + 1) := by
   have hl : t < kN.length := by
    have : kN.length = 64 := by decide
    omega
   rw [List.drop_eq_getElem_cons hl]
   simp [List.getD, hl]
  have hkS : kS t = (kN.getD t 0 : Int) := by
   have hall : ∀ t, t < 64 -> kS t = (kN.getD t 0 : Int) := by decide
   exact hall t (by omega)
  have hone : one32 (zah (wI B) t v) (kS t) (wI B t) = (((h + big1N e + pickN e f g + kN.getD t 0 + W t) % 4294967296 : Nat) : Int) := by
   unfold one32
   rw [h4.1, h5.1, h6.1, h7.1, big1_nat h4.2, pick_nat h4.2 h5.2 h6.2, hkS, (hW t).1]
   exact add_five _ _ _ _ _
  have htwo : two32 (zah (wI B) t v) = (((big0N a + mostN a b c) % 4294967296 : Nat) : Int) := by
   unfold two32
   rw [h0.1, h1.1, h2.1, big0_nat h0.2, most_nat h0.2 h1.2 h2.2]
   exact zbq _ _
  have r0 : zah (wI B) (t + 1) v 0 = (((h + big1N e + pickN e f g + kN.getD t 0 + W t + (big0N a + mostN a b c)) % 4294967296 : Nat) : Int) := by
   show add32 (one32 (zah (wI B) t v) (kS t) (wI B t)) (two32 (zah (wI B) t v)) = _
   rw [hone, htwo, zbq, <- Nat.add_mod]
  have r4 : zah (wI B) (t + 1) v 4 = (((d + (h + big1N e + pickN e f g + kN.getD t 0 + W t)) % 4294967296 : Nat) : Int) := by
   show add32 (zah (wI B) t v 3) (one32 (zah (wI B) t v) (kS t) (wI B t)) = _
   rw [hone, h3.1, zbq]
   omega
  have w16 : W (t + 16) = (W t + low0N (W (t + 1)) + W (t + 9) + low1N (W (t + 14))) % 4294967296 := by
   have e1 := wI_high B t
   rw [(hW (t + 16)).1, (hW t).1, (hW (t + 1)).1, (hW (t + 9)).1, (hW (t + 14)).1, (low0_nat (hW (t + 1)).2).1, (low1_nat (hW (t + 14)).2).1] at e1
   unfold add32 at e1
   omega
  rw [hk]
  have ih := run_is B v W hW n (t + 1) _ a b c _ e f g (by omega) ⟨r0, m_lt _⟩ ⟨h0.1, h0.2⟩ ⟨h1.1, h1.2⟩ ⟨h2.1, h2.2⟩ ⟨r4, m_lt _⟩ ⟨h4.1, h4.2⟩ ⟨h5.1, h5.2⟩ ⟨h6.1, h6.2⟩ i hi
  rw [ih]
  show _ = (((runN (kN.drop (t + 1)) (W (t + 1)) (W (t + 2)) (W (t + 3)) (W (t + 4)) (W (t + 5)) (W (t + 6)) (W (t + 7)) (W (t + 8)) (W (t + 9)) (W (t + 10)) (W (t + 11)) (W (t + 12)) (W (t + 13)) (W (t + 14)) (W (t + 15)) ((W t + low0N (W (t + 1)) + W (t + 9) + low1N (W (t + 14))) % 4294967296) _ a b c _ e f g).getD i 0 : Nat) : Int)
  rw [<- w16]
def fourN (a b c d : Nat) : Nat := ((a * 16777216 ||| b * 65536) ||| c * 256) ||| d
theorem four_nat {a b c d : Nat} (ha : a <= 255) (hb : b <= 255) (hc : c <= 255) (hd : d <= 255) : four (a : Int) b c d = (fourN a b c d : Int) /\ U32 (fourN a b c d) := by
 have h1 : a * 16777216 < 4294967296 := Nat.lt_of_le_of_lt (Nat.mul_le_mul_right _ ha) (by decide)
 have h2 : b * 65536 < 4294967296 := Nat.lt_of_le_of_lt (Nat.mul_le_mul_right _ hb) (by decide)
 have h3 : c * 256 < 4294967296 := Nat.lt_of_le_of_lt (Nat.mul_le_mul_right _ hc) (by decide)
 have h4 : d < 4294967296 := by omega
 have e1 : (a : Int) * 16777216 = ((a * 16777216 : Nat) : Int) := by omega
 have e2 : (b : Int) * 65536 = ((b * 65536 : Nat) : Int) := by omega
 have e3 : (c : Int) * 256 = ((c * 256 : Nat) : Int) := by omega
 unfold four fourN
 rw [e1, e2, e3, zdX h1 h2, zdX (or_lt h1 h2) h3, zdX (or_lt (or_lt h1 h2) h3) h4]
 exact ⟨rfl, or_lt (or_lt (or_lt h1 h2) h3) h4⟩
theorem wI_bd (B : NI) (j : Nat) : 0 <= wI B j /\ wI B j < 4294967296 := by
 by_cases h : j < 16
 ·rw [wI_low B h]
  unfold four or32
  have h1 := bits_lo_u32 .or (bits .or .u32 (bits .or .u32 (B (4 * j) * 16777216) (B (4 * j + 1) * 65536)) (B (4 * j + 2) * 256)) (B (4 * j + 3))
  have h2 := bits_hi_u32 .or (bits .or .u32 (bits .or .u32 (B (4 * j) * 16777216) (B (4 * j + 1) * 65536)) (B (4 * j + 2) * 256)) (B (4 * j + 3))
  omega
 ·obtain ⟨t, rfl⟩ : ∃ t, j = t + 16 := ⟨j - 16, by omega⟩
  rw [wI_high]
  unfold add32
  omega
def wordN (bs : Nat -> Nat) (c j : Nat) : Nat := fourN (bs (64 * c + 4 * j)) (bs (64 * c + 4 * j + 1)) (bs (64 * c + 4 * j + 2)) (bs (64 * c + 4 * j + 3))
def pieceN (bs : Nat -> Nat) (c : Nat) : List Nat -> List Nat
 | [a, b, cc, d, e, f, g, h] => List.zipWith (fun x y => (x + y) % 4294967296) [a, b, cc, d, e, f, g, h]
   (runN kN (wordN bs c 0) (wordN bs c 1) (wordN bs c 2) (wordN bs c 3) (wordN bs c 4) (wordN bs c 5) (wordN bs c 6) (wordN bs c 7) (wordN bs c 8) (wordN bs c 9) (wordN bs c 10) (wordN bs c 11) (wordN bs c 12) (wordN bs c 13) (wordN bs c 14) (wordN bs c 15) a b cc d e f g h)
 | _ => []
def stN (bs : Nat -> Nat) : Nat -> List Nat
 | 0 => hList.map Int.toNat
 | c + 1 => pieceN bs c (stN bs c)
theorem runN_len : ∀ (ks : List Nat) (w0 w1 w2 w3 w4 w5 w6 w7 w8 w9 w10 w11 w12 w13 w14 w15 a b c d e f g h : Nat), (runN ks w0 w1 w2 w3 w4 w5 w6 w7 w8 w9 w10 w11 w12 w13 w14 w15 a b c d e f g h).length = 8
 | [], _, _, _, _, _, _, _, _, _, _, _, _, _, _, _, _, _, _, _, _, _, _, _, _ => rfl
 | _ :: ks, _, _, _, _, _, _, _, _, _, _, _, _, _, _, _, _, _, _, _, _, _, _, _, _ => runN_len ks _ _ _ _ _ _ _ _ _ _ _ _ _ _ _ _ _ _ _ _ _ _ _ _
theorem rounds_eq {W V : NI} : ∀ (T : Nat) (v : NI) (i : Nat), (∀ j, j < T -> W j = V j) -> zah W T v i = zah V T v i
 | 0, _, _, _ => rfl
 | T + 1, v, i, h => by
  have e : zah W T v = zah V T v := funext fun i => rounds_eq T v i fun j hj => h j (by omega)
  show zcR (zah W T v) (kS T) (W T) i = zcR (zah V T v) (kS T) (V T) i
  rw [e, h T (by omega)]
theorem start_is : ∀ i, i < 8 -> hS i = (((hList.map Int.toNat).getD i 0 : Nat) : Int) /\ (hList.map Int.toNat).getD i 0 < 4294967296 := by decide
theorem state_is (bs : Nat -> Nat) (hb : ∀ i, bs i <= 255) : ∀ c, ∃ a b cc d e f g h : Nat, stN bs c = [a, b, cc, d, e, f, g, h] /\ ∀ i, i < 8 -> state (fun i => (bs i : Int)) c i = (((stN bs c).getD i 0 : Nat) : Int) /\ U32 ((stN bs c).getD i 0)
 | 0 => ⟨_, _, _, _, _, _, _, _, rfl, start_is⟩
 | c + 1 => by
  obtain ⟨a, b, cc, d, e, f, g, h, hs, hst⟩ := state_is bs hb c
  have s0 := hst 0 (by omega)
  have s1 := hst 1 (by omega)
  have s2 := hst 2 (by omega)
  have s3 := hst 3 (by omega)
  have s4 := hst 4 (by omega)
  have s5 := hst 5 (by omega)
  have s6 := hst 6 (by omega)
  have s7 := hst 7 (by omega)
  rw [hs] at s0 s1 s2 s3 s4 s5 s6 s7
  have hW : ∀ j, wI (fun j => ((bs (64 * c + j) : Nat) : Int)) j = ((wI (fun j => ((bs (64 * c + j) : Nat) : Int)) j).toNat : Int) /\ U32 (wI (fun j => ((bs (64 * c + j) : Nat) : Int)) j).toNat := fun j => by
   have := wI_bd (fun j => ((bs (64 * c + j) : Nat) : Int)) j
   exact ⟨by omega, by show _ < _; omega⟩
  have hw : ∀ j, j < 16 -> (wI (fun j => ((bs (64 * c + j) : Nat) : Int)) j).toNat = wordN bs c j := fun j hj => by
   rw [wI_low _ hj, (four_nat (hb _) (hb _) (hb _) (hb _)).1, Int.toNat_natCast]
   rfl
  have run := run_is (fun j => ((bs (64 * c + j) : Nat) : Int)) (state (fun i => (bs i : Int)) c) _ hW 64 0 a b cc d e f g h rfl s0 s1 s2 s3 s4 s5 s6 s7
  rw [hw 0 (by omega), hw 1 (by omega), hw 2 (by omega), hw 3 (by omega), hw 4 (by omega), hw 5 (by omega), hw 6 (by omega), hw 7 (by omega), hw 8 (by omega), hw 9 (by omega), hw 10 (by omega), hw 11 (by omega), hw 12 (by omega), hw 13 (by omega), hw 14 (by omega), hw 15 (by omega)] at run
  have e1 : stN bs (c + 1) = List.zipWith (fun x y => (x + y) % 4294967296) [a, b, cc, d, e, f, g, h]
    (runN kN (wordN bs c 0) (wordN bs c 1) (wordN bs c 2) (wordN bs c 3) (wordN bs c 4) (wordN bs c 5) (wordN bs c 6) (wordN bs c 7) (wordN bs c 8) (wordN bs c 9) (wordN bs c 10) (wordN bs c 11) (wordN bs c 12) (wordN bs c 13) (wordN bs c 14) (wordN bs c 15) a b cc d e f g h) := by
   show pieceN bs c (stN bs c) = _
   rw [hs]
   rfl
  obtain ⟨r, hr⟩ : ∃ r, r = runN kN (wordN bs c 0) (wordN bs c 1) (wordN bs c 2) (wordN bs c 3) (wordN bs c 4) (wordN bs c 5) (wordN bs c 6) (wordN bs c 7) (wordN bs c 8) (wordN bs c 9) (wordN bs c 10) (wordN bs c 11) (wordN bs c 12) (wordN bs c 13) (wordN bs c 14) (wordN bs c 15) a b cc d e f g h := ⟨_, rfl⟩
  have hl : r.length = 8 := by rw [hr]; exact runN_len _ _ _ _ _ _ _ _ _ _ _ _ _ _ _ _ _ _ _ _ _ _ _ _ _
  rw [<- hr] at e1
  have hrun : ∀ i, i < 8 -> zah (sched (fun j => ((bs (64 * c + j) : Nat) : Int)) 64) 64 (state (fun i => (bs i : Int)) c) i = ((r.getD i 0 : Nat) : Int) := fun i hi => by
   rw [rounds_eq 64 _ i (fun j hj => zcu _ 64 hj), run i hi, hr]
   rfl
  match r, hl with
  | [r0, r1, r2, r3, r4, r5, r6, r7], _ =>
   refine ⟨_, _, _, _, _, _, _, _, e1, fun i hi => ?_⟩
   rw [e1]
   have key : ∀ i, i < 8 -> state (fun i => (bs i : Int)) (c + 1) i = add32 (state (fun i => (bs i : Int)) c i) ((([r0, r1, r2, r3, r4, r5, r6, r7] : List Nat).getD i 0 : Nat) : Int) := fun i hi => by
    rw [<- hrun i hi]
    rfl
   rw [key i hi]
   match i, hi with
   | 0, _ => exact ⟨by rw [s0.1]; exact zbq _ _, m_lt _⟩
   | 1, _ => exact ⟨by rw [s1.1]; exact zbq _ _, m_lt _⟩
   | 2, _ => exact ⟨by rw [s2.1]; exact zbq _ _, m_lt _⟩
   | 3, _ => exact ⟨by rw [s3.1]; exact zbq _ _, m_lt _⟩
   | 4, _ => exact ⟨by rw [s4.1]; exact zbq _ _, m_lt _⟩
   | 5, _ => exact ⟨by rw [s5.1]; exact zbq _ _, m_lt _⟩
   | 6, _ => exact ⟨by rw [s6.1]; exact zbq _ _, m_lt _⟩
   | 7, _ => exact ⟨by rw [s7.1]; exact zbq _ _, m_lt _⟩
def shaN (xs : List Int) : List Int := outL (fun i => (((stN (fun i => ((padL xs).getD i 0).toNat) (zaX xs.length)).getD i 0 : Nat) : Int)) 8
theorem outL_eq {h h' : NI} : ∀ n, (∀ i, i < n -> h i = h' i) -> outL h n = outL h' n
 | 0, _ => rfl
 | n + 1, e => by
  show outL h n ++ zaq (h n) 4 = outL h' n ++ zaq (h' n) 4
  rw [outL_eq n fun i hi => e i (by omega), e n (by omega)]
theorem sum_is (xs : List Int) (h : Bts xs) : sumL xs = shaN xs := by
 have hb := fun i => zca (pad_bd h) i
 have e : (fun i => (padL xs).getD i 0) = fun i => ((((padL xs).getD i 0).toNat : Nat) : Int) := funext fun i => by
  have := hb i
  omega
 unfold sumL shaN
 rw [e]
 refine outL_eq 8 fun i hi => ?_
 obtain ⟨_, _, _, _, _, _, _, _, _, hst⟩ := state_is (fun i => ((padL xs).getD i 0).toNat) (fun i => by have := hb i; omega) (zaX xs.length)
 exact (hst i hi).1
end
section
open Go.RowKit
def accG (P Q G H : Int) (label : List Int) (y : Int) (l : Nat) (C : NN) (no : Nat) (O : NN) (na : Nat) (A : NI) (nb : Nat) (B : NI) (np : Nat) (Pp : NI) (nk : Nat) (K : NI) (nz : Nat) (Xz : NI) : Bool :=
 fitB l no na nb np && accS P Q G H label y l C O A B Pp nk K nz Xz (chX label Q (knwS P Q G H y l C l O) l A) (chYZ 121 label Q (knwS P Q G H y l C l O) l A B) (chYZ 122 label Q (knwS P Q G H y l C l O) l A B)
theorem saccept_any (P Q G H : Int) (a : OA) (m cap : Nat) (label : List Int) (y : Int) (bi : OA) (l ci : Nat) (C : NN) (bo : OA) (no co : Nat) (O : NN) (ba : OA) (na ca : Nat) (A : NI) (bb : OA) (nb cb : Nat) (B : NI) (bp : OA) (np cp : Nat) (Pp : NI) (bk : OA) (nk ck : Nat) (K : NI) (bz : OA) (nz cz : Nat) (Xz : NI) (w : World) (h4 : Four P Q G H) (hr : Righ P Q G) (hy : U64 y) (hlb : Bts label) (hll : label.length <= 1000) (ml : l <= 9223372036854775807) (hca : na <= ca /\ ca <= 9223372036854775807) (hcb : nb <= cb /\ cb <= 9223372036854775807) (mk : nk <= 80) (hC : BoxsIn w bi l C) (hO : BoxsIn w bo no O) (hA : FacsIn w ba na A) (hB : FacsIn w bb nb B) (hP : FacsIn w bp np Pp) (hK : FacsIn w bk nk K) (hX : FacsIn w bz nz Xz) :
  Calls prog 34 #[gv P Q G H a m cap, .string (strOfNums label), .int .u64 y, .slice bi l ci, .slice bo no co, .agg #[.slice ba na ca, .slice bb nb cb, .slice bp np cp, .slice bk nk ck, .slice bz nz cz]] w (Ret w (.bool (accG P Q G H label y l C no O na A nb B np Pp nk K nz Xz))) := by
 unfold accG
 cases hf : fitB l no na nb np with
 | false =>
  rw [Bool.false_and]
  exact sacc_no P Q G H a m cap label y bi l ci bo no co ba na ca bb nb cb bp np cp bk nk ck bz nz cz w ml hf
 | true =>
  rw [Bool.true_and]
  obtain ⟨⟨h1, h8⟩, e1, e2, e3, e4⟩ := za9.1 hf
  subst e1 e2 e3 e4
  exact lacc_any P Q G H a m cap label y bi ci C bo co O ba ca A bb cb B bp cp Pp bk nk ck K bz nz cz Xz _ _ _ _ w h1 h8 h4 hr hy hlb hll hca hcb mk hC hO hA hB hP hK hX rfl rfl rfl
theorem Mix8.accG {P Q G H y : Int} {n : Nat} {C : NN} {O : NI} {Rh : NN} {R S T : NI} (m : Mix8 P Q G H y n C O Rh R S T) (label : List Int) {D : NI} (hD : ∀ k, k < 7 * n + 3 -> 0 <= D k) :
  accG P Q G H label y n C n (mixC P Q G y C O Rh) n (aF P Q G H O R) n (mxB P Q G H label y n C O Rh R S) n (mxP P Q G H label y n C O Rh R S T) (4 * n + 6) (mxK P Q G H label y n C O Rh R S T D) (7 * n + 3) (mxZ P Q G H label y n C O Rh R S T D) = true := by
 have uY : U64 (mxC 121 P Q G H label y n C O Rh R S) := by unfold mxC chYZ; exact zav _ _ _ _
 have uZ : U64 (mxC 122 P Q G H label y n C O Rh R S) := by unfold mxC chYZ; exact zav _ _ _ _
 have uH : U64 (mxH P Q G H label y n C O Rh R S T D) := by unfold mxH chI; exact zav _ _ _ _
 unfold Go.Proofs.YtlnmjbbpenhdbaaGreat.accG accS
 rw [Bool.and_eq_true_iff, Bool.and_eq_true_iff]
 exact ⟨za9.2 ⟨⟨m.n1, m.n8⟩, rfl, rfl, rfl, rfl⟩, m.clm _ uY.1 uZ.1, m.acc _ uY.1 uZ.1 uH.1 hD⟩
theorem zbV {F G : NI} : ∀ n, (∀ i, i < n -> F i = G i) -> packL F n = packL G n
 | 0, _ => rfl
 | n + 1, h => by
  unfold packL
  rw [zbV n fun i hi => h i (by omega), h n (by omega)]
theorem chX_congr {label : List Int} {Q : Int} {K : Nat -> List Int} {n : Nat} {A A' : NI} (h : ∀ i, i < n -> A i = A' i) : chX label Q K n A = chX label Q K n A' := by
 unfold chX
 refine zbe fun i hi => ?_
 unfold askS
 split
 ·rfl
 split
 ·rfl
 ·exact zbV _ h
theorem chYZ_congr {c : Int} {label : List Int} {Q : Int} {K : Nat -> List Int} {n : Nat} {A A' B B' : NI} (h : ∀ i, i < n -> A i = A' i) (k : ∀ i, i < n -> B i = B' i) : chYZ c label Q K n A B = chYZ c label Q K n A' B' := by
 unfold chYZ
 refine zbe fun i hi => ?_
 unfold askS
 split
 ·rfl
 split
 ·rfl
 ·match i - 4 with
  | 0 => exact zbV _ h
  | _ + 1 => exact zbV _ k
theorem zb4 {label : List Int} {S : Nat -> List Int} {n : Nat} {q v : Int} (l : List Int) (e : numL label S n = l) (hb : Bts l) (hq : okM q) (hv : numF (fun i => (shaN l).getD i 0) q 16 = v) : zai label S n q = v := by
 unfold zai
 rw [if_pos hq, e, sum_is l hb]
 exact hv
def bx8 : Nat -> Int
 | 0 => 1
 | 1 => 4
 | 2 => 1
 | 3 => 9
 | 4 => 4
 | _ => 16
def rh8 : Nat -> Int
 | 0 => 5
 | 1 => 6
 | _ => 7
def mx8 : Nat -> Int
 | 0 => 1024
 | 1 => 1590
 | 2 => 42
 | 3 => 1936
 | 4 => 672
 | _ => 1583
abbrev awC : Nat -> Nat -> Int := fun _ => bx8
abbrev awR : Nat -> Nat -> Int := fun _ => rh8
abbrev awO : Nat -> Int := fun _ => 0
abbrev awM : Nat -> Nat -> Int := mixC 2027 1013 4 64 awC awO awR
theorem aw_mix : mixB 2027 1013 64 1 awC 1 awO 1 = true := by decide +kernel
theorem aw_drw : drwB 1 1 1 1 10 = true := by decide +kernel
theorem aw_h : inI 2027 1013 9 = true := by decide +kernel
theorem aw_M : ∀ k, k < 6 -> awM 0 k = mx8 k := by decide +kernel
theorem aw_A : aF 2027 1013 4 9 awO (fun _ => 1) 0 = 36 := by decide +kernel
def kn8 : Nat -> List Int := knwS 2027 1013 4 9 64 1 awC 1 awM
def kn9 : Nat -> List Int := knwS 2027 1013 4 9 64 1 awM 1 awM
theorem aw_X : mxX 2027 1013 4 9 [97] 64 1 awC awO awR (fun _ => 1) = 262 := by
 unfold mxX
 rw [chX_congr (A' := fun _ => 36) fun i hi => by rw [show i = 0 by omega]; exact aw_A]
 have e : numL [97] (askS [120] kn8 (one8 (fun _ => 36)) (one8 1)) (1 + 4) = [0, 0, 0, 0, 0, 0, 0, 1, 97, 0, 0, 0, 0, 0, 0, 0, 1, 120, 0, 0, 0, 0, 0, 0, 0, 40, 0, 0, 0, 0, 0, 0, 7, 235, 0, 0, 0, 0, 0, 0, 3, 245, 0, 0, 0, 0, 0, 0, 0, 4, 0, 0, 0, 0, 0, 0, 0, 9, 0, 0, 0, 0, 0, 0, 0, 64, 0, 0, 0, 0, 0, 0, 0, 48, 0, 0, 0, 0, 0, 0, 0, 1, 0, 0, 0, 0, 0, 0, 0, 4, 0, 0, 0, 0, 0, 0, 0, 1, 0, 0, 0, 0, 0, 0, 0, 9, 0, 0, 0, 0, 0, 0, 0, 4, 0, 0, 0, 0, 0, 0, 0, 16, 0, 0, 0, 0, 0, 0, 0, 48, 0, 0, 0, 0, 0, 0, 4, 0, 0, 0, 0, 0, 0, 0, 6, 54, 0, 0, 0, 0, 0, 0, 0, 42, 0, 0, 0, 0, 0, 0, 7, 144, 0, 0, 0, 0, 0, 0, 2, 160, 0, 0, 0, 0, 0, 0, 6, 47, 0, 0, 0, 0, 0, 0, 0, 8, 0, 0, 0, 0, 0, 0, 0, 36] := by decide +kernel
 exact zb4 _ e (by unfold Bts; decide +kernel) (by decide) (by decide +kernel)
theorem aw_B : mxB 2027 1013 4 9 [97] 64 1 awC awO awR (fun _ => 1) (fun _ => 2) 0 = 1648 := by
 show comI 2027 1013 4 9 (powI (mxX 2027 1013 4 9 [97] 64 1 awC awO awR (fun _ => 1)) (0 + 1) 1013) 2 = 1648
 rw [aw_X]
 decide +kernel
theorem aw_ch (c : Int) (K : Nat -> List Int) : chYZ c [97] 1013 K 1 (aF 2027 1013 4 9 awO (fun _ => 1)) (mxB 2027 1013 4 9 [97] 64 1 awC awO awR (fun _ => 1) (fun _ => 2)) = zai [97] (askS [c] K (two8f (fun _ => 36) (fun _ => 1648)) (two8f 1 1)) (2 + 4) 1013 :=
 chYZ_congr (fun i hi => by rw [show i = 0 by omega]; exact aw_A) (fun i hi => by rw [show i = 0 by omega]; exact aw_B)
theorem aw_Y : mxC 121 2027 1013 4 9 [97] 64 1 awC awO awR (fun _ => 1) (fun _ => 2) = 936 := by
 refine (aw_ch 121 kn8).trans ?_
 have e : numL [97] (askS [121] kn8 (two8f (fun _ => 36) (fun _ => 1648)) (two8f 1 1)) (2 + 4) = [0, 0, 0, 0, 0, 0, 0, 1, 97, 0, 0, 0, 0, 0, 0, 0, 1, 121, 0, 0, 0, 0, 0, 0, 0, 40, 0, 0, 0, 0, 0, 0, 7, 235, 0, 0, 0, 0, 0, 0, 3, 245, 0, 0, 0, 0, 0, 0, 0, 4, 0, 0, 0, 0, 0, 0, 0, 9, 0, 0, 0, 0, 0, 0, 0, 64, 0, 0, 0, 0, 0, 0, 0, 48, 0, 0, 0, 0, 0, 0, 0, 1, 0, 0, 0, 0, 0, 0, 0, 4, 0, 0, 0, 0, 0, 0, 0, 1, 0, 0, 0, 0, 0, 0, 0, 9, 0, 0, 0, 0, 0, 0, 0, 4, 0, 0, 0, 0, 0, 0, 0, 16, 0, 0, 0, 0, 0, 0, 0, 48, 0, 0, 0, 0, 0, 0, 4, 0, 0, 0, 0, 0, 0, 0, 6, 54, 0, 0, 0, 0, 0, 0, 0, 42, 0, 0, 0, 0, 0, 0, 7, 144, 0, 0, 0, 0, 0, 0, 2, 160, 0, 0, 0, 0, 0, 0, 6, 47, 0, 0, 0, 0, 0, 0, 0, 8, 0, 0, 0, 0, 0, 0, 0, 36, 0, 0, 0, 0, 0, 0, 0, 8, 0, 0, 0, 0, 0, 0, 6, 112] := by decide +kernel
 exact zb4 _ e (by unfold Bts; decide +kernel) (by decide) (by decide +kernel)
theorem aw_Z : mxC 122 2027 1013 4 9 [97] 64 1 awC awO awR (fun _ => 1) (fun _ => 2) = 514 := by
 refine (aw_ch 122 kn8).trans ?_
 have e : numL [97] (askS [122] kn8 (two8f (fun _ => 36) (fun _ => 1648)) (two8f 1 1)) (2 + 4) = [0, 0, 0, 0, 0, 0, 0, 1, 97, 0, 0, 0, 0, 0, 0, 0, 1, 122, 0, 0, 0, 0, 0, 0, 0, 40, 0, 0, 0, 0, 0, 0, 7, 235, 0, 0, 0, 0, 0, 0, 3, 245, 0, 0, 0, 0, 0, 0, 0, 4, 0, 0, 0, 0, 0, 0, 0, 9, 0, 0, 0, 0, 0, 0, 0, 64, 0, 0, 0, 0, 0, 0, 0, 48, 0, 0, 0, 0, 0, 0, 0, 1, 0, 0, 0, 0, 0, 0, 0, 4, 0, 0, 0, 0, 0, 0, 0, 1, 0, 0, 0, 0, 0, 0, 0, 9, 0, 0, 0, 0, 0, 0, 0, 4, 0, 0, 0, 0, 0, 0, 0, 16, 0, 0, 0, 0, 0, 0, 0, 48, 0, 0, 0, 0, 0, 0, 4, 0, 0, 0, 0, 0, 0, 0, 6, 54, 0, 0, 0, 0, 0, 0, 0, 42, 0, 0, 0, 0, 0, 0, 7, 144, 0, 0, 0, 0, 0, 0, 2, 160, 0, 0, 0, 0, 0, 0, 6, 47, 0, 0, 0, 0, 0, 0, 0, 8, 0, 0, 0, 0, 0, 0, 0, 36, 0, 0, 0, 0, 0, 0, 0, 8, 0, 0, 0, 0, 0, 0, 6, 112] := by decide +kernel
 exact zb4 _ e (by unfold Bts; decide +kernel) (by decide) (by decide +kernel)
theorem aw_Y2 : chYZ 121 [97] 1013 kn9 1 (aF 2027 1013 4 9 awO (fun _ => 1)) (mxB 2027 1013 4 9 [97] 64 1 awC awO awR (fun _ => 1) (fun _ => 2)) = 511 := by
 refine (aw_ch 121 kn9).trans ?_
 have e : numL [97] (askS [121] kn9 (two8f (fun _ => 36) (fun _ => 1648)) (two8f 1 1)) (2 + 4) = [0, 0, 0, 0, 0, 0, 0, 1, 97, 0, 0, 0, 0, 0, 0, 0, 1, 121, 0, 0, 0, 0, 0, 0, 0, 40, 0, 0, 0, 0, 0, 0, 7, 235, 0, 0, 0, 0, 0, 0, 3, 245, 0, 0, 0, 0, 0, 0, 0, 4, 0, 0, 0, 0, 0, 0, 0, 9, 0, 0, 0, 0, 0, 0, 0, 64, 0, 0, 0, 0, 0, 0, 0, 48, 0, 0, 0, 0, 0, 0, 4, 0, 0, 0, 0, 0, 0, 0, 6, 54, 0, 0, 0, 0, 0, 0, 0, 42, 0, 0, 0, 0, 0, 0, 7, 144, 0, 0, 0, 0, 0, 0, 2, 160, 0, 0, 0, 0, 0, 0, 6, 47, 0, 0, 0, 0, 0, 0, 0, 48, 0, 0, 0, 0, 0, 0, 4, 0, 0, 0, 0, 0, 0, 0, 6, 54, 0, 0, 0, 0, 0, 0, 0, 42, 0, 0, 0, 0, 0, 0, 7, 144, 0, 0, 0, 0, 0, 0, 2, 160, 0, 0, 0, 0, 0, 0, 6, 47, 0, 0, 0, 0, 0, 0, 0, 8, 0, 0, 0, 0, 0, 0, 0, 36, 0, 0, 0, 0, 0, 0, 0, 8, 0, 0, 0, 0, 0, 0, 6, 112] := by decide +kernel
 exact zb4 _ e (by unfold Bts; decide +kernel) (by decide) (by decide +kernel)
theorem aw_Z2 : chYZ 122 [97] 1013 kn9 1 (aF 2027 1013 4 9 awO (fun _ => 1)) (mxB 2027 1013 4 9 [97] 64 1 awC awO awR (fun _ => 1) (fun _ => 2)) = 620 := by
 refine (aw_ch 122 kn9).trans ?_
 have e : numL [97] (askS [122] kn9 (two8f (fun _ => 36) (fun _ => 1648)) (two8f 1 1)) (2 + 4) = [0, 0, 0, 0, 0, 0, 0, 1, 97, 0, 0, 0, 0, 0, 0, 0, 1, 122, 0, 0, 0, 0, 0, 0, 0, 40, 0, 0, 0, 0, 0, 0, 7, 235, 0, 0, 0, 0, 0, 0, 3, 245, 0, 0, 0, 0, 0, 0, 0, 4, 0, 0, 0, 0, 0, 0, 0, 9, 0, 0, 0, 0, 0, 0, 0, 64, 0, 0, 0, 0, 0, 0, 0, 48, 0, 0, 0, 0, 0, 0, 4, 0, 0, 0, 0, 0, 0, 0, 6, 54, 0, 0, 0, 0, 0, 0, 0, 42, 0, 0, 0, 0, 0, 0, 7, 144, 0, 0, 0, 0, 0, 0, 2, 160, 0, 0, 0, 0, 0, 0, 6, 47, 0, 0, 0, 0, 0, 0, 0, 48, 0, 0, 0, 0, 0, 0, 4, 0, 0, 0, 0, 0, 0, 0, 6, 54, 0, 0, 0, 0, 0, 0, 0, 42, 0, 0, 0, 0, 0, 0, 7, 144, 0, 0, 0, 0, 0, 0, 2, 160, 0, 0, 0, 0, 0, 0, 6, 47, 0, 0, 0, 0, 0, 0, 0, 8, 0, 0, 0, 0, 0, 0, 0, 36, 0, 0, 0, 0, 0, 0, 0, 8, 0, 0, 0, 0, 0, 0, 6, 112] := by decide +kernel
 exact zb4 _ e (by unfold Bts; decide +kernel) (by decide) (by decide +kernel)
theorem aw_P : mxP 2027 1013 4 9 [97] 64 1 awC awO awR (fun _ => 1) (fun _ => 2) (fun _ => 3) 0 = 182 := by
 show bigI 2027 1013 4 (aF 2027 1013 4 9 awO (fun _ => 1) 0) (mxB 2027 1013 4 9 [97] 64 1 awC awO awR (fun _ => 1) (fun _ => 2) 0) (mxC 121 2027 1013 4 9 [97] 64 1 awC awO awR (fun _ => 1) (fun _ => 2)) (mxC 122 2027 1013 4 9 [97] 64 1 awC awO awR (fun _ => 1) (fun _ => 2)) = 182
 rw [aw_A, aw_B, aw_Y, aw_Z]
 decide +kernel
theorem aw_no (nk : Nat) (K : NI) (nz : Nat) (Xz : NI) : accG 2027 1013 4 9 [97] 64 1 awM 1 awM 1 (aF 2027 1013 4 9 awO (fun _ => 1)) 1 (mxB 2027 1013 4 9 [97] 64 1 awC awO awR (fun _ => 1) (fun _ => 2)) 1 (mxP 2027 1013 4 9 [97] 64 1 awC awO awR (fun _ => 1) (fun _ => 2) (fun _ => 3)) nk K nz Xz = false := by
 have hc : clmB 2027 1013 4 64 1 awM 1 awM 1 (aF 2027 1013 4 9 awO (fun _ => 1)) 1 (mxB 2027 1013 4 9 [97] 64 1 awC awO awR (fun _ => 1) (fun _ => 2)) 1 (mxP 2027 1013 4 9 [97] 64 1 awC awO awR (fun _ => 1) (fun _ => 2) (fun _ => 3)) 511 620 = false := by
  unfold clmB
  rw [aw_P, aw_A, aw_B, show decide ((182 : Int) = bigI 2027 1013 4 36 1648 511 620) = false from by decide +kernel]
  simp
 unfold accG accS
 rw [show chYZ 121 [97] 1013 (knwS 2027 1013 4 9 64 1 awM 1 awM) 1 _ _ = 511 from aw_Y2, show chYZ 122 [97] 1013 (knwS 2027 1013 4 9 64 1 awM 1 awM) 1 _ _ = 620 from aw_Z2, hc]
 simp
end
section
open Go.RowKit
abbrev boxV : Value := .agg #[.int .u64 1, .int .u64 4, .int .u64 1, .int .u64 9, .int .u64 4, .int .u64 16]
abbrev boxA : Array Value := #[.int .u64 1, .int .u64 4, .int .u64 1, .int .u64 9, .int .u64 4, .int .u64 16]
theorem info_box : (prog.info? 74).map (·.size) = some 6 := by kernel_rfl
theorem box8_any (w : World) : Calls prog 47 #[] w (Ret w boxV) := by
 go_enter func47, ntmps47
 go_wp2_with fail
 exact bodyPost_ret (results_cell_row rfl _ _ _ _ _ (0, 0) _ rfl (heap_alloc_last _ _) underlying74 rfl info_box) rfl ⟨rfl, (Old.refl _).alloc _⟩
def rowK {S : TypeId} (n : Nat) (c : Array Value) (T : TypeId) (hT : S ≠ T) : Ent2 (OldT S) := .u (fun v w => ∃ b, v = .slice (some ⟨b, 0, none⟩) n n /\ w.heap[b]? = some (.cells c T (0, 0))) fun _ _ _ ⟨b, e, h⟩ ho => ⟨b, e, ho.row hT h⟩
def shP (base n : Nat) (M : NN) (A B Pp : NI) (nt : Nat) (K : NI) (nz : Nat) (Z : NI) : Ent2 (OldT 57) := .u (fun v w => ∃ bm cm ba ca bb cb bp cp bk ck bz cz, v = .tuple #[.slice bm n cm, .agg #[.slice ba n ca, .slice bb n cb, .slice bp n cp, .slice bk nt ck, .slice bz nz cz], .bool true] /\ BoxF w bm n M /\ Nums w base (.slice ba n ca) n A /\ Nums w base (.slice bb n cb) n B /\ Nums w base (.slice bp n cp) n Pp /\ Nums w base (.slice bk nt ck) nt K /\ Nums w base (.slice bz nz cz) nz Z)
 fun _ _ _ ⟨bm, cm, ba, ca, bb, cb, bp, cp, bk, ck, bz, cz, e, h, h1, h2, h3, h4, h5⟩ ho => ⟨bm, cm, ba, ca, bb, cb, bp, cp, bk, ck, bz, cz, e, h.oldT (by decide) ho, h1.oldT (by decide) ho, h2.oldT (by decide) ho, h3.oldT (by decide) ho, h4.oldT (by decide) ho, h5.oldT (by decide) ho⟩
def shM (n : Nat) (M : NN) : Ent2 (OldT 57) := .u (fun v w => ∃ bm cm, v = .slice bm n cm /\ BoxF w bm n M) fun _ _ _ ⟨bm, cm, e, h⟩ ho => ⟨bm, cm, e, h.oldT (by decide) ho⟩
def shA (base n : Nat) (A B Pp : NI) (nt : Nat) (K : NI) (nz : Nat) (Z : NI) : Ent2 (OldT 57) := .u (fun v w => ∃ ba ca bb cb bp cp bk ck bz cz, v = .agg #[.slice ba n ca, .slice bb n cb, .slice bp n cp, .slice bk nt ck, .slice bz nz cz] /\ Nums w base (.slice ba n ca) n A /\ Nums w base (.slice bb n cb) n B /\ Nums w base (.slice bp n cp) n Pp /\ Nums w base (.slice bk nt ck) nt K /\ Nums w base (.slice bz nz cz) nz Z)
 fun _ _ _ ⟨ba, ca, bb, cb, bp, cp, bk, ck, bz, cz, e, h1, h2, h3, h4, h5⟩ ho => ⟨ba, ca, bb, cb, bp, cp, bk, ck, bz, cz, e, h1.oldT (by decide) ho, h2.oldT (by decide) ho, h3.oldT (by decide) ho, h4.oldT (by decide) ho, h5.oldT (by decide) ho⟩
theorem aw_u64 : (∀ k, k < 6 -> U64 (bx8 k)) /\ (∀ k, k < 3 -> U64 (rh8 k)) := by unfold U64; decide
theorem boxs_one {w : World} {b : Nat} (h : w.heap[b]? = some (.cells boxA 74 (0, 0))) : BoxsIn w (some ⟨b, 0, none⟩) 1 awC := Or.inr ⟨b, 0, rfl, zam h, fun j hj k hk => ⟨by
 have : j = 0 := by omega
 subst this
 rw [show 0 + 0 * 6 + k = k by omega, cell_of_row _ _ k _ _ (0, 0) h]
 match k, hk with
 | 0, _ => rfl
 | 1, _ => rfl
 | 2, _ => rfl
 | 3, _ => rfl
 | 4, _ => rfl
 | 5, _ => rfl, aw_u64.1 k hk⟩⟩
theorem ints_one {w : World} {b : Nat} (h : w.heap[b]? = some (.cells #[.int .i64 0] 3 (0, 0))) : IntsIn w (some ⟨b, 0, none⟩) 1 awO := Or.inr ⟨b, 0, rfl, zam h, fun j hj => by
 have : j = 0 := by omega
 subst this
 exact ⟨(cell_of_row _ _ 0 _ _ (0, 0) h).trans rfl, by decide, by decide⟩⟩
theorem rho_one {w : World} {b : Nat} (h : w.heap[b]? = some (.cells #[.int .u64 5, .int .u64 6, .int .u64 7] 63 (0, 0))) : RhoIn w (some ⟨b, 0, none⟩) 1 awR := Or.inr ⟨b, 0, rfl, zam h, fun j hj k hk => ⟨by
 have : j = 0 := by omega
 subst this
 rw [show 0 + 0 * 3 + k = k by omega, cell_of_row _ _ k _ _ (0, 0) h]
 match k, hk with
 | 0, _ => rfl
 | 1, _ => rfl
 | 2, _ => rfl, aw_u64.2 k hk⟩⟩
theorem num_one {w : World} {b : Nat} {x : Int} (hx : U64 x) (h : w.heap[b]? = some (.cells #[.int .u64 x] 22 (0, 0))) : FacsIn w (some ⟨b, 0, none⟩) 1 (fun _ => x) := Or.inr ⟨b, 0, rfl, zam h, fun j hj => by
 have : j = 0 := by omega
 subst this
 exact ⟨(cell_of_row _ _ 0 _ _ (0, 0) h).trans rfl, hx⟩⟩
theorem num_ten {w : World} {b : Nat} (h : w.heap[b]? = some (.cells (madeCells #[Value.int .u64 0] 10) 22 (0, 0))) : FacsIn w (some ⟨b, 0, none⟩) 10 (fun _ => 0) := Or.inr ⟨b, 0, rfl, zam h, fun j hj => by
 refine ⟨?_, (show U64 0 from ⟨by decide, by decide⟩)⟩
 rw [Nat.zero_add, cell_of_row _ _ j _ _ (0, 0) h]
 simp [madeCells, hj, Nat.mod_one]⟩
theorem aw_mx : Mix8 2027 1013 4 9 64 1 awC awO awR (fun _ => 1) (fun _ => 2) (fun _ => 3) := ⟨zdm, aw_h, by decide +kernel, by decide, by decide, zaM.1 (by decide +kernel), (zaN.1 (show batB 2027 1013 1 awC = true by decide +kernel)).2, fun _ _ => (show (0 : Int) <= 1 by decide), fun _ _ => (show (0 : Int) <= 2 by decide), fun _ _ => (show (0 : Int) <= 3 by decide), fun _ _ k hk => (aw_u64.2 k hk).1⟩
theorem zcF {P : Program} (w : World) (b off : Nat) (ty : TypeId) (cs : Array Value) (d : TypeDesc) (hc : ∀ j v, cs[j]? = some v -> w.cell? ⟨b, off + j, none⟩ = some v) (hu : P.underlying ty = some d) (hd : aggD d = true) (hi : (P.info? ty).map (·.size) = some cs.size) :
  (loadVar ty ⟨b, off, none⟩).run P w = .ok (.agg cs) w := by
 have hl : (loadCells ⟨b, off, none⟩ cs.toList.length).run P w = .ok cs.toList.toArray w :=
  run_loadCells_list (P := P) w ⟨b, off, none⟩ cs.toList (fun j v hv => by
   have hadd : (⟨b, off, none⟩ : Addr).add j = ⟨b, off + j, none⟩ := by unfold Addr.add; split <;> simp_all
   rw [hadd]
   exact hc j v (by simpa using hv))
 obtain ⟨i, hq, hs⟩ := Option.map_eq_some_iff.1 hi
 have hagg : (isAgg ty).run P w = .ok true w := by
  unfold isAgg
  rw [Sem.run_bind, run_underlying hu w]
  cases d <;> simp_all [aggD]
 simp only [Array.length_toList, Array.toArray_toList] at hl
 simp [loadVar, Sem.run_bind, hagg, sizeOf, typeInfo, hq, hs, hl]
theorem stlv {P : Program} {ops : List Oper} {L0 : List Value} {E : List Ent} {R : World -> Prop} {dst : Option Tmp} {ty : TypeId} {pos : String} {after : Array Edge} {guard : Option (Nat × Bool)} {T : TypeId} {x : Operand} {p : Addr} {v : Value} (hc : ∀ wx, R wx -> (loadVar T p).run P wx = .ok v wx) (hg : zap E ⟨dst, .load T x, ty, pos, after, guard⟩ = some true := by rfl) (hx : ∀ t, Act.eval ⟨(fill ops E t 0 L0).toArray, []⟩ x = .pointer (some p) := by intro _; kernel_rfl) : StepT P ops L0 E R ⟨dst, .load T x, ty, pos, after, guard⟩ (.k v) :=
 stw hg fun t wx hR => by simp only [execOp, hx t, Instr.loadAt, Instr.sureAddr, Sem.run_bind, Sem.run_pure, Result.andThen_ok, hc wx hR]
theorem awake8_any (w : World) : Calls prog 12 #[] w (Ret w (.bool true)) := by
 have hmk : ∀ wx : World, (Instr.makeSlice 29 (.int .i64 10) (.int .i64 10)).run prog wx = .ok (.slice (some ⟨wx.heap.size, 0, none⟩) 10 10) (wx.alloc (.cells (madeCells #[Value.int .u64 0] 10) 22)) := fun wx => zaP 10 (by omega) wx
 go_enter func12, ntmps12
 go_upto_region 2 with (go_at_call 46; refine (small4_any _).mono ?_; rintro e w1 ⟨a, FA, rfl, hrow, ho1⟩)
 have HZ := lain1 w1 (gc 2027 1013 4 9 a 5 5) 25
 have HW : Hid (Old w w1) := ho1
 have HG0 := fun w' ho => (HZ.then (W' := w') ho).row 0 (by simp)
 have HOw : Hid (Old w (w1.alloc (.cells (gc 2027 1013 4 9 a 5 5) 25))) := HW.out.trans HZ.old
 clear hrow ho1 HZ HW
 generalize w1.alloc (.cells (gc 2027 1013 4 9 a 5 5) 25) = W at *
 obtain ⟨gb, hgb⟩ : ∃ gb, gb = w1.heap.size := ⟨_, rfl⟩
 have HG : Hid (∀ wx, Old W wx -> wx.heap[gb]? = some (.cells (gc 2027 1013 4 9 a 5 5) 25 (0, 0))) := by rw [hgb]; exact HG0
 rw [<- hgb]
 clear hgb HG0
 obtain ⟨s, hs⟩ : ∃ s, s = W.heap.size := ⟨_, rfl⟩
 have HD : Hid (∀ wx, Old ((((((W.alloc (.cells #[.int .u64 5, .int .u64 6, .int .u64 7] 63)).alloc (.cells #[.int .u64 1] 22)).alloc (.cells #[.int .u64 2] 22)).alloc (.cells #[.int .u64 3] 22)).alloc (.cells (madeCells #[Value.int .u64 0] 10) 22)).alloc (.cells (dvc (some ⟨s, 0, none⟩) 1 1 (some ⟨s + 1, 0, none⟩) 1 1 (some ⟨s + 1 + 1, 0, none⟩) 1 1 (some ⟨s + 1 + 1 + 1, 0, none⟩) 1 1 (some ⟨s + 1 + 1 + 1 + 1, 0, none⟩) 10 10) 31)) wx -> wx.heap[s]? = some (.cells #[.int .u64 5, .int .u64 6, .int .u64 7] 63 (0, 0)) /\ wx.heap[s + 1]? = some (.cells #[.int .u64 1] 22 (0, 0)) /\ wx.heap[s + 1 + 1]? = some (.cells #[.int .u64 2] 22 (0, 0)) /\ wx.heap[s + 1 + 1 + 1]? = some (.cells #[.int .u64 3] 22 (0, 0)) /\ wx.heap[s + 1 + 1 + 1 + 1]? = some (.cells (madeCells #[Value.int .u64 0] 10) 22 (0, 0)) /\ wx.heap[s + 1 + 1 + 1 + 1 + 1]? = some (.cells (dvc (some ⟨s, 0, none⟩) 1 1 (some ⟨s + 1, 0, none⟩) 1 1 (some ⟨s + 1 + 1, 0, none⟩) 1 1 (some ⟨s + 1 + 1 + 1, 0, none⟩) 1 1 (some ⟨s + 1 + 1 + 1 + 1, 0, none⟩) 10 10) 31 (0, 0))) := fun wx ho => by
  subst hs
  have L := ((((((Lain.nil W).add (by simp) #[.int .u64 5, .int .u64 6, .int .u64 7] 63).add (by simp) #[.int .u64 1] 22).add (by simp) #[.int .u64 2] 22).add (by simp) #[.int .u64 3] 22).add (by simp) (madeCells #[Value.int .u64 0] 10) 22).add (by simp) (dvc (some ⟨W.heap.size, 0, none⟩) 1 1 (some ⟨W.heap.size + 1, 0, none⟩) 1 1 (some ⟨W.heap.size + 1 + 1, 0, none⟩) 1 1 (some ⟨W.heap.size + 1 + 1 + 1, 0, none⟩) 1 1 (some ⟨W.heap.size + 1 + 1 + 1 + 1, 0, none⟩) 10 10) 31
  have M := L.then ho
  exact ⟨M.row 0 (by simp), M.row 1 (by simp), M.row 2 (by simp), M.row 3 (by simp), M.row 4 (by simp), M.row 5 (by simp)⟩
 have HOd : Hid (Old W ((((((W.alloc (.cells #[.int .u64 5, .int .u64 6, .int .u64 7] 63)).alloc (.cells #[.int .u64 1] 22)).alloc (.cells #[.int .u64 2] 22)).alloc (.cells #[.int .u64 3] 22)).alloc (.cells (madeCells #[Value.int .u64 0] 10) 22)).alloc (.cells (dvc (some ⟨s, 0, none⟩) 1 1 (some ⟨s + 1, 0, none⟩) 1 1 (some ⟨s + 1 + 1, 0, none⟩) 1 1 (some ⟨s + 1 + 1 + 1, 0, none⟩) 1 1 (some ⟨s + 1 + 1 + 1 + 1, 0, none⟩) 10 10) 31))) := ((((((Old.refl W).alloc _).alloc _).alloc _).alloc _).alloc _).alloc _
 go_upto_region 3 with fail
 rw [<- hs]
 clear hs hmk
 generalize (((((W.alloc (.cells #[.int .u64 5, .int .u64 6, .int .u64 7] 63)).alloc (.cells #[.int .u64 1] 22)).alloc (.cells #[.int .u64 2] 22)).alloc (.cells #[.int .u64 3] 22)).alloc (.cells (madeCells #[Value.int .u64 0] 10) 22)).alloc (.cells (dvc (some ⟨s, 0, none⟩) 1 1 (some ⟨s + 1, 0, none⟩) 1 1 (some ⟨s + 1 + 1, 0, none⟩) 1 1 (some ⟨s + 1 + 1 + 1, 0, none⟩) 1 1 (some ⟨s + 1 + 1 + 1 + 1, 0, none⟩) 10 10) 31) = V at *
 have HGv : Hid (∀ wx, Old V wx -> wx.heap[gb]? = some (.cells (gc 2027 1013 4 9 a 5 5) 25 (0, 0))) := fun wx ho => HG.out wx (HOd.out.trans ho)
 have HDv : Hid (∀ wx, Old V wx -> wx.heap[s + 1 + 1 + 1 + 1 + 1]? = some (.cells (dvc (some ⟨s, 0, none⟩) 1 1 (some ⟨s + 1, 0, none⟩) 1 1 (some ⟨s + 1 + 1, 0, none⟩) 1 1 (some ⟨s + 1 + 1 + 1, 0, none⟩) 1 1 (some ⟨s + 1 + 1 + 1 + 1, 0, none⟩) 10 10) 31 (0, 0))) := fun wx ho => (HD.out wx ho).2.2.2.2.2
 have HPv : Hid (∀ wx b b2, Old V wx -> wx.heap[b]? = some (.cells boxA 74 (0, 0)) -> wx.heap[b2]? = some (.cells #[.int .i64 0] 3 (0, 0)) -> Calls prog 31 #[gv 2027 1013 4 9 a 5 5, .string ⟨#[97]⟩, .int .u64 64, .slice (some ⟨b, 0, none⟩) 1 1, .slice (some ⟨b2, 0, none⟩) 1 1, dv (some ⟨s, 0, none⟩) 1 1 (some ⟨s + 1, 0, none⟩) 1 1 (some ⟨s + 1 + 1, 0, none⟩) 1 1 (some ⟨s + 1 + 1 + 1, 0, none⟩) 1 1 (some ⟨s + 1 + 1 + 1 + 1, 0, none⟩) 10 10] wx (GivS wx true 1 awM (aF 2027 1013 4 9 awO (fun _ => 1)) (mxB 2027 1013 4 9 [97] 64 1 awC awO awR (fun _ => 1) (fun _ => 2)) (mxP 2027 1013 4 9 [97] 64 1 awC awO awR (fun _ => 1) (fun _ => 2) (fun _ => 3)) 10 (mxK 2027 1013 4 9 [97] 64 1 awC awO awR (fun _ => 1) (fun _ => 2) (fun _ => 3) (fun _ => 0)) 10 (mxZ 2027 1013 4 9 [97] 64 1 awC awO awR (fun _ => 1) (fun _ => 2) (fun _ => 3) (fun _ => 0)))) := fun wx b b2 ho hb hi => by
  obtain ⟨d0, d1, d2, d3, d4, _⟩ := HD.out wx ho
  have h := sprove_any 2027 1013 4 9 a 5 5 [97] 64 (some ⟨b, 0, none⟩) 1 1 awC (some ⟨b2, 0, none⟩) 1 1 awO (some ⟨s, 0, none⟩) 1 1 awR (some ⟨s + 1, 0, none⟩) 1 1 (fun _ => 1) (some ⟨s + 1 + 1, 0, none⟩) 1 1 (fun _ => 2) (some ⟨s + 1 + 1 + 1, 0, none⟩) 1 1 (fun _ => 3) (some ⟨s + 1 + 1 + 1 + 1, 0, none⟩) 10 10 (fun _ => 0) wx four_sm zdm aw_h ⟨by decide, by decide⟩ (by unfold Bts; decide) (by decide) (by decide) (by decide) (by decide) ⟨by decide, by decide⟩ (by decide) (boxs_one hb) (ints_one hi) (rho_one d0) (num_one ⟨by decide, by decide⟩ d1) (num_one ⟨by decide, by decide⟩ d2) (num_one ⟨by decide, by decide⟩ d3) (num_ten d4)
  rw [aw_mix, aw_drw, show strOfNums [97] = ⟨#[97]⟩ by decide +kernel] at h
  exact h
 have HBx : Hid (∀ wx, Calls prog 47 #[] wx (Ret wx boxV)) := fun wx => box8_any wx
 refine zbH (Rl := OldT 57) 14 [.k (gv 2027 1013 4 9 a 5 5), .k (boxV), rowK 1 boxA 74 (by decide), rowK 1 #[.int .i64 0] 3 (by decide), .k (dv (some ⟨s, 0, none⟩) 1 1 (some ⟨s + 1, 0, none⟩) 1 1 (some ⟨s + 1 + 1, 0, none⟩) 1 1 (some ⟨s + 1 + 1 + 1, 0, none⟩) 1 1 (some ⟨s + 1 + 1 + 1 + 1, 0, none⟩) 10 10), shP V.heap.size 1 awM (aF 2027 1013 4 9 awO (fun _ => 1)) (mxB 2027 1013 4 9 [97] 64 1 awC awO awR (fun _ => 1) (fun _ => 2)) (mxP 2027 1013 4 9 [97] 64 1 awC awO awR (fun _ => 1) (fun _ => 2) (fun _ => 3)) 10 (mxK 2027 1013 4 9 [97] 64 1 awC awO awR (fun _ => 1) (fun _ => 2) (fun _ => 3) (fun _ => 0)) 10 (mxZ 2027 1013 4 9 [97] 64 1 awC awO awR (fun _ => 1) (fun _ => 2) (fun _ => 3) (fun _ => 0)), shP V.heap.size 1 awM (aF 2027 1013 4 9 awO (fun _ => 1)) (mxB 2027 1013 4 9 [97] 64 1 awC awO awR (fun _ => 1) (fun _ => 2)) (mxP 2027 1013 4 9 [97] 64 1 awC awO awR (fun _ => 1) (fun _ => 2) (fun _ => 3)) 10 (mxK 2027 1013 4 9 [97] 64 1 awC awO awR (fun _ => 1) (fun _ => 2) (fun _ => 3) (fun _ => 0)) 10 (mxZ 2027 1013 4 9 [97] 64 1 awC awO awR (fun _ => 1) (fun _ => 2) (fun _ => 3) (fun _ => 0)), shM 1 awM, shA V.heap.size 1 (aF 2027 1013 4 9 awO (fun _ => 1)) (mxB 2027 1013 4 9 [97] 64 1 awC awO awR (fun _ => 1) (fun _ => 2)) (mxP 2027 1013 4 9 [97] 64 1 awC awO awR (fun _ => 1) (fun _ => 2) (fun _ => 3)) 10 (mxK 2027 1013 4 9 [97] 64 1 awC awO awR (fun _ => 1) (fun _ => 2) (fun _ => 3) (fun _ => 0)) 10 (mxZ 2027 1013 4 9 [97] 64 1 awC awO awR (fun _ => 1) (fun _ => 2) (fun _ => 3) (fun _ => 0)), .k (.bool true), varE 57 5 V.heap.size, shM 1 awM, putE 57 10 8 V.heap.size, .k (.bool true)] (Old V) (by kernel_rfl) (by kernel_rfl) rfl (by kernel_rfl) ((Old.refl _).drew) ?st ?_
 case st =>
  refine .c (stsy underlying25 HGv.out) <| .c (stKy old_R func47 (fun wx _ => HBx.out wx)) <| .c (stmy (ob := fun _ => .cells boxA 74) (v := fun s => .slice (some ⟨s, 0, none⟩) 1 1) old_R fun t wx hR hd => ⟨_, rfl, heap_alloc_last _ _⟩) <| .c (stmy (ob := fun _ => .cells #[.int .i64 0] 3) (v := fun s => .slice (some ⟨s, 0, none⟩) 1 1) old_R fun t wx hR hd => ⟨_, rfl, heap_alloc_last _ _⟩) <| .c (stsy underlying31 HDv.out) <| .c (stCy (args := fun t => #[gv 2027 1013 4 9 a 5 5, .string ⟨#[97]⟩, .int .u64 64, t 2, t 3, dv (some ⟨s, 0, none⟩) 1 1 (some ⟨s + 1, 0, none⟩) 1 1 (some ⟨s + 1 + 1, 0, none⟩) 1 1 (some ⟨s + 1 + 1 + 1, 0, none⟩) 1 1 (some ⟨s + 1 + 1 + 1 + 1, 0, none⟩) 10 10]) old_R func31 fun t wx hR hd => ?_) <| .c (stxy fun t wx hR hd => ⟨t 5, by kernel_rfl, hd 5 (by kernel_rfl)⟩) <| .c (stxy fun t wx hR hd => ?_) <| .c (stxy fun t wx hR hd => ?_) <| .c (stzy fun t wx hR hd => ?_) <| .c (stmy (ob := fun _ => .cells #[.slice none 0 0, .slice none 0 0, .slice none 0 0, .slice none 0 0, .slice none 0 0] 57) (v := fun s => .pointer (some ⟨s, 0, none⟩)) old_R fun t wx hR hd => ⟨_, rfl, hR.size, _, heap_alloc_last _ _, rfl⟩) <| .c (stxy fun t wx hR hd => ⟨t 7, by kernel_rfl, hd 7 (by kernel_rfl)⟩) <| .c (stPy (n := 5) (fun _ _ => True) (fun w g cells h hg => h.setRow hg cells) fun t wx hR hd => ?_) <| .c stpy .n
  ·obtain ⟨b, e2, hb⟩ : ∃ b, t 2 = .slice (some ⟨b, 0, none⟩) 1 1 /\ wx.heap[b]? = some (.cells boxA 74 (0, 0)) := hd 2 (by kernel_rfl)
   obtain ⟨b2, e3, hi⟩ : ∃ b, t 3 = .slice (some ⟨b, 0, none⟩) 1 1 /\ wx.heap[b]? = some (.cells #[.int .i64 0] 3 (0, 0)) := hd 3 (by kernel_rfl)
   rw [e2, e3]
   refine (HPv.out wx b b2 hR hb hi).mono ?_
   rintro e w' ⟨ho, bm, cm, va, vb, vp, vk, vz, rfl, h0, h1, h2, h3, h4, h5⟩
   simp only [if_true] at h0 h1 h2 h3 h4 h5
   obtain ⟨ba, ca, rfl⟩ := zay h1
   obtain ⟨bb, cb, rfl⟩ := zay h2
   obtain ⟨bp, cp, rfl⟩ := zay h3
   obtain ⟨bk, ck, rfl⟩ := zay h4
   obtain ⟨bz, cz, rfl⟩ := zay h5
   exact ⟨_, rfl, ho, bm, cm, ba, ca, bb, cb, bp, cp, bk, ck, bz, cz, rfl, h0, h1.mono hR.size, h2.mono hR.size, h3.mono hR.size, h4.mono hR.size, h5.mono hR.size⟩
  ·obtain ⟨bm, cm, ba, ca, bb, cb, bp, cp, bk, ck, bz, cz, e, hb, N1, N2, N3, N4, N5⟩ : ∃ bm cm ba ca bb cb bp cp bk ck bz cz, t 6 = .tuple #[.slice bm 1 cm, .agg #[.slice ba 1 ca, .slice bb 1 cb, .slice bp 1 cp, .slice bk 10 ck, .slice bz 10 cz], .bool true] /\ BoxF wx bm 1 awM /\ Nums wx V.heap.size (.slice ba 1 ca) 1 (aF 2027 1013 4 9 awO (fun _ => 1)) /\ Nums wx V.heap.size (.slice bb 1 cb) 1 (mxB 2027 1013 4 9 [97] 64 1 awC awO awR (fun _ => 1) (fun _ => 2)) /\ Nums wx V.heap.size (.slice bp 1 cp) 1 (mxP 2027 1013 4 9 [97] 64 1 awC awO awR (fun _ => 1) (fun _ => 2) (fun _ => 3)) /\ Nums wx V.heap.size (.slice bk 10 ck) 10 (mxK 2027 1013 4 9 [97] 64 1 awC awO awR (fun _ => 1) (fun _ => 2) (fun _ => 3) (fun _ => 0)) /\ Nums wx V.heap.size (.slice bz 10 cz) 10 (mxZ 2027 1013 4 9 [97] 64 1 awC awO awR (fun _ => 1) (fun _ => 2) (fun _ => 3) (fun _ => 0)) := hd 6 (by kernel_rfl)
   exact ⟨_, zbc (Eq.trans (b := t 6) (by kernel_rfl) e) rfl, bm, cm, rfl, hb⟩
  ·obtain ⟨bm, cm, ba, ca, bb, cb, bp, cp, bk, ck, bz, cz, e, hb, N1, N2, N3, N4, N5⟩ : ∃ bm cm ba ca bb cb bp cp bk ck bz cz, t 6 = .tuple #[.slice bm 1 cm, .agg #[.slice ba 1 ca, .slice bb 1 cb, .slice bp 1 cp, .slice bk 10 ck, .slice bz 10 cz], .bool true] /\ BoxF wx bm 1 awM /\ Nums wx V.heap.size (.slice ba 1 ca) 1 (aF 2027 1013 4 9 awO (fun _ => 1)) /\ Nums wx V.heap.size (.slice bb 1 cb) 1 (mxB 2027 1013 4 9 [97] 64 1 awC awO awR (fun _ => 1) (fun _ => 2)) /\ Nums wx V.heap.size (.slice bp 1 cp) 1 (mxP 2027 1013 4 9 [97] 64 1 awC awO awR (fun _ => 1) (fun _ => 2) (fun _ => 3)) /\ Nums wx V.heap.size (.slice bk 10 ck) 10 (mxK 2027 1013 4 9 [97] 64 1 awC awO awR (fun _ => 1) (fun _ => 2) (fun _ => 3) (fun _ => 0)) /\ Nums wx V.heap.size (.slice bz 10 cz) 10 (mxZ 2027 1013 4 9 [97] 64 1 awC awO awR (fun _ => 1) (fun _ => 2) (fun _ => 3) (fun _ => 0)) := hd 6 (by kernel_rfl)
   exact ⟨_, zbc (Eq.trans (b := t 6) (by kernel_rfl) e) rfl, ba, ca, bb, cb, bp, cp, bk, ck, bz, cz, rfl, N1, N2, N3, N4, N5⟩
  ·obtain ⟨bm, cm, ba, ca, bb, cb, bp, cp, bk, ck, bz, cz, e, hb, N1, N2, N3, N4, N5⟩ : ∃ bm cm ba ca bb cb bp cp bk ck bz cz, t 6 = .tuple #[.slice bm 1 cm, .agg #[.slice ba 1 ca, .slice bb 1 cb, .slice bp 1 cp, .slice bk 10 ck, .slice bz 10 cz], .bool true] /\ BoxF wx bm 1 awM /\ Nums wx V.heap.size (.slice ba 1 ca) 1 (aF 2027 1013 4 9 awO (fun _ => 1)) /\ Nums wx V.heap.size (.slice bb 1 cb) 1 (mxB 2027 1013 4 9 [97] 64 1 awC awO awR (fun _ => 1) (fun _ => 2)) /\ Nums wx V.heap.size (.slice bp 1 cp) 1 (mxP 2027 1013 4 9 [97] 64 1 awC awO awR (fun _ => 1) (fun _ => 2) (fun _ => 3)) /\ Nums wx V.heap.size (.slice bk 10 ck) 10 (mxK 2027 1013 4 9 [97] 64 1 awC awO awR (fun _ => 1) (fun _ => 2) (fun _ => 3) (fun _ => 0)) /\ Nums wx V.heap.size (.slice bz 10 cz) 10 (mxZ 2027 1013 4 9 [97] 64 1 awC awO awR (fun _ => 1) (fun _ => 2) (fun _ => 3) (fun _ => 0)) := hd 6 (by kernel_rfl)
   exact zbc (Eq.trans (b := t 6) (by kernel_rfl) e) rfl
  ·obtain ⟨ba, ca, bb, cb, bp, cp, bk, ck, bz, cz, e8, _⟩ : ∃ ba ca bb cb bp cp bk ck bz cz, t 8 = .agg #[.slice ba 1 ca, .slice bb 1 cb, .slice bp 1 cp, .slice bk 10 ck, .slice bz 10 cz] /\ _ := hd 8 (by kernel_rfl)
   obtain ⟨b, e10, hb, cs, hcs, hs⟩ : ∃ b, t 10 = .pointer (some ⟨b, 0, none⟩) /\ V.heap.size <= b /\ ∃ cs, wx.heap[b]? = some (.cells cs 57 (0, 0)) /\ cs.size = 5 := hd 10 (by kernel_rfl)
   exact ⟨b, _, cs, e10, e8, hb, hcs, hs, rfl, by simp [Value.oneCell']⟩
 intro t wx hR hk
 simp only [fill2, Ent2.val, rowK, shP, shM, shA, varE, putE, List.set_cons_zero, List.set_cons_succ, List.drop_succ_cons, List.drop_zero, List.drop_nil]
 obtain ⟨bm, cm, e11, hbm⟩ : ∃ bm cm, t 11 = .slice bm 1 cm /\ BoxF wx bm 1 awM := hk 11 (by omega)
 obtain ⟨ps, cs, e12, hps, hrow⟩ : ∃ b cs, [t 10, t 8] = [.pointer (some ⟨b, 0, none⟩), .agg cs] /\ V.heap.size <= b /\ wx.heap[b]? = some (.cells cs 57 (0, 0)) := hk 12 (by omega)
 obtain ⟨ba, ca, bb, cb, bp, cp, bk, ck, bz, cz, e8, N1, N2, N3, N4, N5⟩ : ∃ ba ca bb cb bp cp bk ck bz cz, t 8 = .agg #[.slice ba 1 ca, .slice bb 1 cb, .slice bp 1 cp, .slice bk 10 ck, .slice bz 10 cz] /\ Nums wx V.heap.size (.slice ba 1 ca) 1 (aF 2027 1013 4 9 awO (fun _ => 1)) /\ Nums wx V.heap.size (.slice bb 1 cb) 1 (mxB 2027 1013 4 9 [97] 64 1 awC awO awR (fun _ => 1) (fun _ => 2)) /\ Nums wx V.heap.size (.slice bp 1 cp) 1 (mxP 2027 1013 4 9 [97] 64 1 awC awO awR (fun _ => 1) (fun _ => 2) (fun _ => 3)) /\ Nums wx V.heap.size (.slice bk 10 ck) 10 (mxK 2027 1013 4 9 [97] 64 1 awC awO awR (fun _ => 1) (fun _ => 2) (fun _ => 3) (fun _ => 0)) /\ Nums wx V.heap.size (.slice bz 10 cz) 10 (mxZ 2027 1013 4 9 [97] 64 1 awC awO awR (fun _ => 1) (fun _ => 2) (fun _ => 3) (fun _ => 0)) := hk 8 (by omega)
 rw [e8] at e12
 have e10 : t 10 = .pointer (some ⟨ps, 0, none⟩) := by injection e12
 have ecs : cs = #[.slice ba 1 ca, .slice bb 1 cb, .slice bp 1 cp, .slice bk 10 ck, .slice bz 10 cz] := by
  injection e12 with _ e12
  injection e12 with e12 _
  injection e12 with e12
  exact e12.symm
 subst ecs
 rw [e10, e11]
 clear e8 e10 e11 e12 hk
 have HV : Hid (Old V wx) := hR
 rcases hbm with h0 | ⟨mb, mcs, rfl, hmb, hmc⟩
 ·cases h0
 have HM : Hid (∀ wy, Old wx wy -> BoxsIn wy (some ⟨mb, 0, none⟩) 1 awM) := fun wy ho => (BoxF.boxs (Or.inr ⟨mb, mcs, rfl, hmb, hmc⟩)).old ho
 have HMl : Hid (∀ wy, Old wx wy -> (loadVar 74 ⟨mb, 0, none⟩).run prog wy = .ok (.agg #[.int .u64 1024, .int .u64 1590, .int .u64 42, .int .u64 1936, .int .u64 672, .int .u64 1583]) wy) := fun wy ho => zcF wy mb 0 _ _ _ (fun j v hv => by
  have hh := (ho.block _ (zam hmb)).trans hmb
  rw [Nat.zero_add, cell_of_row _ _ j _ _ (0, 0) hh]
  have hj : j < 6 := (Array.getElem?_eq_some_iff.1 hv).1
  have := (hmc 0 (by omega) j hj).1
  rw [aw_M j hj, Nat.zero_mul, Nat.zero_add] at this
  rw [this, <- hv]
  match j, hj with
  | 0, _ => rfl
  | 1, _ => rfl
  | 2, _ => rfl
  | 3, _ => rfl
  | 4, _ => rfl
  | 5, _ => rfl) underlying74 rfl info_box
 have HSr : Hid (∀ wy, Old wx wy -> wy.heap[ps]? = some (.cells #[.slice ba 1 ca, .slice bb 1 cb, .slice bp 1 cp, .slice bk 10 ck, .slice bz 10 cz] 57 (0, 0))) := fun wy ho => (ho.block _ (zam hrow)).trans hrow
 have HGx : Hid (∀ wy, Old wx wy -> wy.heap[gb]? = some (.cells (gc 2027 1013 4 9 a 5 5) 25 (0, 0))) := fun wy ho => HGv.out wy (HV.out.trans ho)
 have uA : ∀ i, i < 1 -> U64 ((aF 2027 1013 4 9 awO (fun _ => 1)) i) := fun i _ => zcy _ _ _ _ _ _
 have uB : ∀ i, i < 1 -> U64 ((mxB 2027 1013 4 9 [97] 64 1 awC awO awR (fun _ => 1) (fun _ => 2)) i) := fun i _ => zcy _ _ _ _ _ _
 have uP : ∀ i, i < 1 -> U64 ((mxP 2027 1013 4 9 [97] 64 1 awC awO awR (fun _ => 1) (fun _ => 2) (fun _ => 3)) i) := fun i _ => thi_u64 _ _ _ _ _ _ _ _ _ _ _ i
 have uK : ∀ i, i < 10 -> U64 ((mxK 2027 1013 4 9 [97] 64 1 awC awO awR (fun _ => 1) (fun _ => 2) (fun _ => 3) (fun _ => 0)) i) := fun i _ => zci _ _ _
 have uZ : ∀ i, i < 10 -> U64 ((mxZ 2027 1013 4 9 [97] 64 1 awC awO awR (fun _ => 1) (fun _ => 2) (fun _ => 3) (fun _ => 0)) i) := fun i _ => u64_ans _ _ _ _
 obtain ⟨_, _, E1, q1, q2, f1⟩ := N1.facs2 uA
 obtain ⟨_, _, E2, q3, q4, f2⟩ := N2.facs2 uB
 obtain ⟨_, _, E3, _, _, f3⟩ := N3.facs2 uP
 obtain ⟨_, _, E4, _, _, f4⟩ := N4.facs2 uK
 obtain ⟨_, _, E5, _, _, f5⟩ := N5.facs2 uZ
 cases E1
 cases E2
 cases E3
 cases E4
 cases E5
 have HAc : Hid (∀ wy (bi : OA) (C : NN) (ci co : Nat) r, Old wx wy -> BoxsIn wy bi 1 C -> accG 2027 1013 4 9 [97] 64 1 C 1 awM 1 (aF 2027 1013 4 9 awO (fun _ => 1)) 1 (mxB 2027 1013 4 9 [97] 64 1 awC awO awR (fun _ => 1) (fun _ => 2)) 1 (mxP 2027 1013 4 9 [97] 64 1 awC awO awR (fun _ => 1) (fun _ => 2) (fun _ => 3)) 10 (mxK 2027 1013 4 9 [97] 64 1 awC awO awR (fun _ => 1) (fun _ => 2) (fun _ => 3) (fun _ => 0)) 10 (mxZ 2027 1013 4 9 [97] 64 1 awC awO awR (fun _ => 1) (fun _ => 2) (fun _ => 3) (fun _ => 0)) = r -> Calls prog 34 #[gv 2027 1013 4 9 a 5 5, .string ⟨#[97]⟩, .int .u64 64, .slice bi 1 ci, .slice (some ⟨mb, 0, none⟩) 1 co, .agg #[.slice ba 1 ca, .slice bb 1 cb, .slice bp 1 cp, .slice bk 10 ck, .slice bz 10 cz]] wy (Ret wy (.bool r))) := fun wy bi C ci co r ho hb hr => by
  have h := saccept_any 2027 1013 4 9 a 5 5 [97] 64 bi 1 ci C (some ⟨mb, 0, none⟩) 1 co awM ba 1 ca _ bb 1 cb _ bp 1 cp _ bk 10 ck _ bz 10 cz _ wy four_sm zdm ⟨by decide, by decide⟩ (by unfold Bts; decide) (by decide) (by decide) ⟨q1, q2⟩ ⟨q3, q4⟩ (by decide) hb (HM.out wy ho) (f1.old ho) (f2.old ho) (f3.old ho) (f4.old ho) (f5.old ho)
  rw [show strOfNums [97] = ⟨#[97]⟩ by decide +kernel, hr] at h
  exact h
 have HYes : Hid (accG 2027 1013 4 9 [97] 64 1 awC 1 awM 1 (aF 2027 1013 4 9 awO (fun _ => 1)) 1 (mxB 2027 1013 4 9 [97] 64 1 awC awO awR (fun _ => 1) (fun _ => 2)) 1 (mxP 2027 1013 4 9 [97] 64 1 awC awO awR (fun _ => 1) (fun _ => 2) (fun _ => 3)) 10 (mxK 2027 1013 4 9 [97] 64 1 awC awO awR (fun _ => 1) (fun _ => 2) (fun _ => 3) (fun _ => 0)) 10 (mxZ 2027 1013 4 9 [97] 64 1 awC awO awR (fun _ => 1) (fun _ => 2) (fun _ => 3) (fun _ => 0)) = true) := aw_mx.accG [97] fun k _ => Int.le_refl 0
 have HNo : Hid (accG 2027 1013 4 9 [97] 64 1 awM 1 awM 1 (aF 2027 1013 4 9 awO (fun _ => 1)) 1 (mxB 2027 1013 4 9 [97] 64 1 awC awO awR (fun _ => 1) (fun _ => 2)) 1 (mxP 2027 1013 4 9 [97] 64 1 awC awO awR (fun _ => 1) (fun _ => 2) (fun _ => 3)) 10 (mxK 2027 1013 4 9 [97] 64 1 awC awO awR (fun _ => 1) (fun _ => 2) (fun _ => 3) (fun _ => 0)) 10 (mxZ 2027 1013 4 9 [97] 64 1 awC awO awR (fun _ => 1) (fun _ => 2) (fun _ => 3) (fun _ => 0)) = false) := aw_no _ _ _ _
 clear N1 N2 N3 N4 N5 f1 f2 f3 f4 f5 uA uB uP uK uZ hR hrow hmb hmc hps HPv HGv HDv HD HG q1 q2 q3 q4
 generalize aF 2027 1013 4 9 awO (fun _ => 1) = lA at *
 generalize mxB 2027 1013 4 9 [97] 64 1 awC awO awR (fun _ => 1) (fun _ => 2) = lB at *
 generalize mxP 2027 1013 4 9 [97] 64 1 awC awO awR (fun _ => 1) (fun _ => 2) (fun _ => 3) = lP at *
 generalize mxK 2027 1013 4 9 [97] 64 1 awC awO awR (fun _ => 1) (fun _ => 2) (fun _ => 3) (fun _ => 0) = lK at *
 generalize mxZ 2027 1013 4 9 [97] 64 1 awC awO awR (fun _ => 1) (fun _ => 2) (fun _ => 3) (fun _ => 0) = lZ at *
 go_upto_region 4 with fail
 refine zaa 30 [.k (.bool true), .k (.bool true), .k (.slice (some ⟨mb, 0, none⟩) 1 cm), .k (.int .i64 (1 : Nat)), .k (.bool true), .k (.bool true), .k (.bool true), .k (.slice (some ⟨mb, 0, none⟩) 1 cm), .k (.pointer (some ⟨mb, 0 * 6, none⟩)), .k (.agg #[.int .u64 1024, .int .u64 1590, .int .u64 42, .int .u64 1936, .int .u64 672, .int .u64 1583]), .k (boxV), .k (.bool true), .k (.bool true), .k (.bool true), .k (gv 2027 1013 4 9 a 5 5), .k (boxV), blkE 1 boxA 74, .k (.slice (some ⟨mb, 0, none⟩) 1 cm), .k (.agg #[.slice ba 1 ca, .slice bb 1 cb, .slice bp 1 cp, .slice bk 10 ck, .slice bz 10 cz]), .k (.bool true), .k (.bool true), .k (.bool true), .k (gv 2027 1013 4 9 a 5 5), .k (.slice (some ⟨mb, 0, none⟩) 1 cm), .k (.slice (some ⟨mb, 0, none⟩) 1 cm), .k (.agg #[.slice ba 1 ca, .slice bb 1 cb, .slice bp 1 cp, .slice bk 10 ck, .slice bz 10 cz]), .k (.bool false), .k (.bool true), .k (.bool true), .k (.bool true)] (Old wx) (by kernel_rfl) (by kernel_rfl) rfl ((Old.refl _).drew) ?st ?_
 case st =>
  refine .c stp <| .c stp <| .c stp <| .c stp <| .c stp <| .c stp <| .c stp <| .c stp <| .c (stj0 (n := 1) (c := cm) 6 (by omega) underlying26) <| .c (stlv HMl.out) <| .c (stK old_R func47 (fun wx _ => HBx.out wx)) <| .c stp <| .c stp <| .c stp <| .c (sts underlying25 HGx.out) <| .c (stK old_R func47 (fun wx _ => HBx.out wx)) <| .c (stm (ob := fun t => .cells boxA 74) (v := fun s => .slice (some ⟨s, 0, none⟩) 1 1) old_R fun t wx hR hd => ⟨_, rfl, heap_alloc_last _ _⟩) <| .c stp <| .c (sts underlying57 HSr.out) <| .c (stC (args := fun t => #[gv 2027 1013 4 9 a 5 5, .string ⟨#[97]⟩, .int .u64 64, t 16, .slice (some ⟨mb, 0, none⟩) 1 cm, .agg #[.slice ba 1 ca, .slice bb 1 cb, .slice bp 1 cp, .slice bk 10 ck, .slice bz 10 cz]]) old_R func34 fun t wy hR hd => ?_) <| .c stp <| .c stp <| .c (sts underlying25 HGx.out) <| .c stp <| .c stp <| .c (sts underlying57 HSr.out) <| .c (stK old_R func34 (fun wy ho => HAc.out wy (some ⟨mb, 0, none⟩) awM cm cm false ho (HM.out wy ho) HNo.out)) <| .c stp <| .c stp <| .c stp .n
  ·obtain ⟨b, e, hb⟩ : ∃ b, t 16 = .slice (some ⟨b, 0, none⟩) 1 1 /\ wy.heap[b]? = some (.cells boxA 74 (0, 0)) := hd 16 (by kernel_rfl)
   rw [e]
   exact (HAc.out wy (some ⟨b, 0, none⟩) awC 1 cm true hR (boxs_one hb) HYes.out).mono fun r w' ⟨h, k⟩ => ⟨_, h, k, rfl⟩
 intro t wz hR hk
 simp only [fill, Ent.val, blkE, List.set_cons_zero, List.set_cons_succ, List.drop_succ_cons, List.drop_zero, List.drop_nil]
 have HO9 : Hid (Old w wz) := (HOw.out.trans HOd.out).trans (HV.out.trans hR)
 clear hR hk
 go_wp2_with fail
 go_ret
 exact ⟨rfl, HO9.out⟩
end
section
open Go.RowKit
abbrev jv (label : List Int) (y : Int) (bi : OA) (l ci : Nat) (bo : OA) (no co : Nat) (bρ : OA) (nρ cρ : Nat) (bR : OA) (nR cR : Nat) (bS : OA) (nS cS : Nat) (bT : OA) (nT cT : Nat) (bD : OA) (nD cD : Nat) : Value := .agg #[.string (strOfNums label), .int .u64 y, .slice bi l ci, .slice bo no co, .slice bρ nρ cρ, .slice bR nR cR, .slice bS nS cS, .slice bT nT cT, .slice bD nD cD]
abbrev jvc (label : List Int) (y : Int) (bi : OA) (l ci : Nat) (bo : OA) (no co : Nat) (bρ : OA) (nρ cρ : Nat) (bR : OA) (nR cR : Nat) (bS : OA) (nS cS : Nat) (bT : OA) (nT cT : Nat) (bD : OA) (nD cD : Nat) : Array Value := #[.string (strOfNums label), .int .u64 y, .slice bi l ci, .slice bo no co, .slice bρ nρ cρ, .slice bR nR cR, .slice bS nS cS, .slice bT nT cT, .slice bD nD cD]
def fewR (nρ nR nS nT nD : Nat) : Bool := decide (nρ <= 10 /\ nR <= 10 /\ nS <= 10 /\ nT <= 10 /\ nD <= 80)
def fewJ (ln l no nρ nR nS nT nD : Nat) : Bool := decide (ln <= 100 /\ l <= 10 /\ no <= 10) && fewR nρ nR nS nT nD
theorem fewJ_iff {ln l no nρ nR nS nT nD : Nat} : fewJ ln l no nρ nR nS nT nD = true ↔ (ln <= 100 /\ l <= 10 /\ no <= 10) /\ nρ <= 10 /\ nR <= 10 /\ nS <= 10 /\ nT <= 10 /\ nD <= 80 := by unfold fewJ fewR; simp [Bool.and_eq_true_iff]
theorem few8d_any (bρ : OA) (nρ cρ : Nat) (bR : OA) (nR cR : Nat) (bS : OA) (nS cS : Nat) (bT : OA) (nT cT : Nat) (bD : OA) (nD cD : Nat) (w : World) : Calls prog 49 #[dv bρ nρ cρ bR nR cR bS nS cS bT nT cT bD nD cD] w (Ret w (.bool (fewR nρ nR nS nT nD))) := by
 have HZ := lain1 w (dvc bρ nρ cρ bR nR cR bS nS cS bT nT cT bD nD cD) 31
 have HW0 : Hid (Old w (w.alloc (.cells (dvc bρ nρ cρ bR nR cR bS nS cS bT nT cT bD nD cD) 31))) := HZ.old
 have d0 := HZ.cell 0 0 (by simp) rfl
 have d1 := HZ.cell 0 1 (by simp) rfl
 have d2 := HZ.cell 0 2 (by simp) rfl
 have d3 := HZ.cell 0 3 (by simp) rfl
 have d4 := HZ.cell 0 4 (by simp) rfl
 clear HZ
 simp only [Nat.add_zero] at d0 d1 d2 d3 d4
 by_cases h0 : nρ <= 10
 rotate_left
 ·have k0 : ¬ (nρ : Int) <= 10 := by omega
  have HV : Hid (fewR nρ nR nS nT nD = false) := by unfold Hid fewR; simp [h0]
  rw [HV.out]
  clear h0
  go_enter func49, ntmps49
  go_upto_region 1 with fail
  generalize w.alloc (.cells (dvc bρ nρ cρ bR nR cR bS nS cS bT nT cT bD nD cD) 31) = W at *
  go_wp2_with fail
  go_ret
  exact ⟨rfl, HW0.out⟩
 have k0 : (nρ : Int) <= 10 := by omega
 by_cases h1 : nR <= 10
 rotate_left
 ·have k1 : ¬ (nR : Int) <= 10 := by omega
  have HV : Hid (fewR nρ nR nS nT nD = false) := by unfold Hid fewR; simp [h0, h1]
  rw [HV.out]
  clear h0
  clear h1
  go_enter func49, ntmps49
  go_upto_region 1 with fail
  generalize w.alloc (.cells (dvc bρ nρ cρ bR nR cR bS nS cS bT nT cT bD nD cD) 31) = W at *
  go_wp2_with fail
  go_ret
  exact ⟨rfl, HW0.out⟩
 have k1 : (nR : Int) <= 10 := by omega
 by_cases h2 : nS <= 10
 rotate_left
 ·have k2 : ¬ (nS : Int) <= 10 := by omega
  have HV : Hid (fewR nρ nR nS nT nD = false) := by unfold Hid fewR; simp [h0, h1, h2]
  rw [HV.out]
  clear h0
  clear h1
  clear h2
  go_enter func49, ntmps49
  go_upto_region 1 with fail
  generalize w.alloc (.cells (dvc bρ nρ cρ bR nR cR bS nS cS bT nT cT bD nD cD) 31) = W at *
  go_wp2_with fail
  go_ret
  exact ⟨rfl, HW0.out⟩
 have k2 : (nS : Int) <= 10 := by omega
 by_cases h3 : nT <= 10
 rotate_left
 ·have k3 : ¬ (nT : Int) <= 10 := by omega
  have HV : Hid (fewR nρ nR nS nT nD = false) := by unfold Hid fewR; simp [h0, h1, h2, h3]
  rw [HV.out]
  clear h0
  clear h1
  clear h2
  clear h3
  go_enter func49, ntmps49
  go_upto_region 1 with fail
  generalize w.alloc (.cells (dvc bρ nρ cρ bR nR cR bS nS cS bT nT cT bD nD cD) 31) = W at *
  go_wp2_with fail
  go_ret
  exact ⟨rfl, HW0.out⟩
 have k3 : (nT : Int) <= 10 := by omega
 by_cases h4 : nD <= 80
 rotate_left
 ·have k4 : ¬ (nD : Int) <= 80 := by omega
  have HV : Hid (fewR nρ nR nS nT nD = false) := by unfold Hid fewR; simp [h0, h1, h2, h3, h4]
  rw [HV.out]
  clear h0
  clear h1
  clear h2
  clear h3
  clear h4
  go_enter func49, ntmps49
  go_upto_region 1 with fail
  generalize w.alloc (.cells (dvc bρ nρ cρ bR nR cR bS nS cS bT nT cT bD nD cD) 31) = W at *
  go_wp2_with fail
  go_ret
  exact ⟨rfl, HW0.out⟩
 have k4 : (nD : Int) <= 80 := by omega
 have HV : Hid (fewR nρ nR nS nT nD = true) := by unfold Hid fewR; simp [h0, h1, h2, h3, h4]
 rw [HV.out]
 clear h0
 clear h1
 clear h2
 clear h3
 clear h4
 go_enter func49, ntmps49
 go_upto_region 1 with fail
 generalize w.alloc (.cells (dvc bρ nρ cρ bR nR cR bS nS cS bT nT cT bD nD cD) 31) = W at *
 go_wp2_with fail
 go_ret
 exact ⟨rfl, HW0.out⟩
theorem few8_any (label : List Int) (y : Int) (bi : OA) (l ci : Nat) (bo : OA) (no co : Nat) (bρ : OA) (nρ cρ : Nat) (bR : OA) (nR cR : Nat) (bS : OA) (nS cS : Nat) (bT : OA) (nT cT : Nat) (bD : OA) (nD cD : Nat) (w : World) : Calls prog 14 #[jv label y bi l ci bo no co bρ nρ cρ bR nR cR bS nS cS bT nT cT bD nD cD] w (Ret w (.bool (fewJ label.length l no nρ nR nS nT nD))) := by
 have HFw : Hid (∀ wx, Calls prog 49 #[dv bρ nρ cρ bR nR cR bS nS cS bT nT cT bD nD cD] wx (Ret wx (.bool (fewR nρ nR nS nT nD)))) := fun wx => few8d_any bρ nρ cρ bR nR cR bS nS cS bT nT cT bD nD cD wx
 have hsz : (strOfNums label).size = label.length := strOfNums_size label
 have HZ := lain1 w (jvc label y bi l ci bo no co bρ nρ cρ bR nR cR bS nS cS bT nT cT bD nD cD) 33
 have HW0 : Hid (Old w (w.alloc (.cells (jvc label y bi l ci bo no co bρ nρ cρ bR nR cR bS nS cS bT nT cT bD nD cD) 33))) := HZ.old
 have d0 := HZ.cell 0 0 (by simp) rfl
 have d2 := HZ.cell 0 2 (by simp) rfl
 have d3 := HZ.cell 0 3 (by simp) rfl
 have d4 := HZ.cell 0 4 (by simp) rfl
 have d5 := HZ.cell 0 5 (by simp) rfl
 have d6 := HZ.cell 0 6 (by simp) rfl
 have d7 := HZ.cell 0 7 (by simp) rfl
 have d8 := HZ.cell 0 8 (by simp) rfl
 clear HZ
 simp only [Nat.add_zero] at d0 d2 d3 d4 d5 d6 d7 d8
 by_cases h0 : label.length <= 100
 rotate_left
 ·have k0 : ¬ (label.length : Int) <= 100 := by omega
  have HV : Hid (fewJ label.length l no nρ nR nS nT nD = false) := by unfold Hid fewJ; simp [h0]
  rw [HV.out]
  clear h0
  go_enter func14, ntmps14
  go_upto_region 1 with fail
  generalize w.alloc (.cells (jvc label y bi l ci bo no co bρ nρ cρ bR nR cR bS nS cS bT nT cT bD nD cD) 33) = W at *
  go_wp2_with fail
  go_ret
  exact ⟨rfl, HW0.out⟩
 have k0 : (label.length : Int) <= 100 := by omega
 by_cases h1 : l <= 10
 rotate_left
 ·have k1 : ¬ (l : Int) <= 10 := by omega
  have HV : Hid (fewJ label.length l no nρ nR nS nT nD = false) := by unfold Hid fewJ; simp [h0, h1]
  rw [HV.out]
  clear h0
  clear h1
  go_enter func14, ntmps14
  go_upto_region 1 with fail
  generalize w.alloc (.cells (jvc label y bi l ci bo no co bρ nρ cρ bR nR cR bS nS cS bT nT cT bD nD cD) 33) = W at *
  go_wp2_with fail
  go_ret
  exact ⟨rfl, HW0.out⟩
 have k1 : (l : Int) <= 10 := by omega
 by_cases h2 : no <= 10
 rotate_left
 ·have k2 : ¬ (no : Int) <= 10 := by omega
  have HV : Hid (fewJ label.length l no nρ nR nS nT nD = false) := by unfold Hid fewJ; simp [h0, h1, h2]
  rw [HV.out]
  clear h0
  clear h1
  clear h2
  go_enter func14, ntmps14
  go_upto_region 1 with fail
  generalize w.alloc (.cells (jvc label y bi l ci bo no co bρ nρ cρ bR nR cR bS nS cS bT nT cT bD nD cD) 33) = W at *
  go_wp2_with fail
  go_ret
  exact ⟨rfl, HW0.out⟩
 have k2 : (no : Int) <= 10 := by omega
 have HV : Hid (fewJ label.length l no nρ nR nS nT nD = fewR nρ nR nS nT nD) := by unfold Hid fewJ; simp [h0, h1, h2]
 rw [HV.out]
 clear h0
 clear h1
 clear h2
 generalize fewR nρ nR nS nT nD = fr at *
 go_enter func14, ntmps14
 go_upto_region 1 with fail
 generalize w.alloc (.cells (jvc label y bi l ci bo no co bρ nρ cρ bR nR cR bS nS cS bT nT cT bD nD cD) 33) = W at *
 go_wp2_with (go_at_call 49; refine (HFw.out _).mono ?_; rintro e w1 ⟨rfl, o1⟩)
 go_ret
 exact ⟨rfl, HW0.out.trans o1⟩
end
section
open Go Go.RowKit
abbrev bx6a (F : NI) : Array Value := #[.int .u64 (F 0), .int .u64 (F 1), .int .u64 (F 2), .int .u64 (F 3), .int .u64 (F 4), .int .u64 (F 5)]
end
section
open Go Go.RowKit
def RowsN (w : World) (base : Nat) (e : TypeId) (sz : Nat) (v : Value) (n : Nat) (V : Nat -> Value) : Prop := w.ownsRow base e sz v n ((List.range (n * sz)).map V)
theorem rowsN_nil (w : World) (base : Nat) (e : TypeId) (sz : Nat) (V : Nat -> Value) : RowsN w base e sz (.slice none 0 0) 0 V := by
 unfold RowsN
 rw [Nat.zero_mul]
 exact World.ownsRow_nil _ _ _ _
theorem RowsN.old {w w' : World} {base : Nat} {e : TypeId} {sz n : Nat} {v : Value} {V : Nat -> Value} (h : RowsN w base e sz v n V) (ho : Old w w') : RowsN w' base e sz v n V := by
 refine ⟨h.1, ?_⟩
 rcases h.2 with hn | ⟨g, cap, cur, hv, hb, hg, rest⟩
 ·exact Or.inl hn
 ·exact Or.inr ⟨g, cap, cur, hv, hb, (ho.block g (Array.getElem?_eq_some_iff.1 hg).1).trans hg, rest⟩
theorem RowsN.app {w : World} {base : Nat} {e : TypeId} {sz n : Nat} {v : Value} {V : Nat -> Value} {news : List Value} (h : w.ownsRow base e sz v (n + 1) ((List.range (n * sz)).map V ++ news)) (hn : news = (List.range sz).map fun q => V (n * sz + q)) : RowsN w base e sz v (n + 1) V := by
 unfold RowsN
 rw [Nat.add_mul, Nat.one_mul, List.range_add, List.map_append, List.map_map]
 rw [hn] at h
 exact h
theorem RowsN.cells {w : World} {base : Nat} {e : TypeId} {sz n : Nat} {v : Value} {V : Nat -> Value} (h : RowsN w base e sz v n V) (hn : 0 < n) : ∃ g c cur, v = .slice (some ⟨g, 0, none⟩) n c /\ n <= c /\ c <= 9223372036854775807 /\ base <= g /\ w.heap[g]? = some (.cells cur e (0, 0)) /\ ∀ q, q < n * sz -> cur[q]? = some (V q) := by
 have h1 := h.1
 rcases h.2 with ⟨rfl, rfl⟩ | ⟨g, cap, cur, rfl, hb, hg, hc, hm, hs, ht⟩
 ·omega
 ·refine ⟨g, cap, cur, rfl, hc, by unfold maxLen at hm; omega, hb, hg, fun q hq => ?_⟩
  have h2 : (cur.toList.take (n * sz))[q]? = some (V q) := by
   rw [ht]
   simp [hq]
  rw [List.getElem?_take_of_lt hq] at h2
  simpa using h2
theorem RowsN.slice {w : World} {base : Nat} {e : TypeId} {sz n : Nat} {v : Value} {V : Nat -> Value} (h : RowsN w base e sz v n V) : ∃ b c, v = .slice b n c := by
 rcases h.2 with ⟨rfl, rfl⟩ | ⟨g, cap, cur, rfl, _⟩
 ·exact ⟨none, 0, rfl⟩
 ·exact ⟨_, cap, rfl⟩
theorem zdj (w : World) (cs : List Value) (t : TypeId) : ∀ j u, cs[j]? = some u -> (w.alloc (.cells cs.toArray t)).cell? ((⟨w.heap.size, 0, none⟩ : Addr).add j) = some u := fun j u h => by
 have hadd : (⟨w.heap.size, 0, none⟩ : Addr).add j = ⟨w.heap.size, j, none⟩ := by unfold Addr.add; split <;> simp_all
 rw [hadd, cell_of_row _ _ j _ _ (0, 0) (heap_alloc_last _ _)]
 simpa using h
abbrev bxL (C : NN) : Nat -> Value := fun q => .int .u64 (flatF C q)
theorem RowsN.boxF {w : World} {base n : Nat} {v : Value} {C : NN} (h : RowsN w base 74 6 v n (bxL C)) (hC : ∀ j k, j < n -> k < 6 -> U64 (C j k)) : ∃ b c, v = .slice b n c /\ BoxF w b n C := by
 by_cases hn : 0 < n
 ·obtain ⟨g, c, cur, rfl, _, _, _, hg, hq⟩ := h.cells hn
  refine ⟨_, c, rfl, Or.inr ⟨g, cur, rfl, hg, fun j hj k hk => ⟨?_, hC j k hj hk⟩⟩⟩
  rw [hq (j * 6 + k) (by omega)]
  unfold bxL
  rw [show j * 6 + k = 6 * j + k by omega, zbF C j k hk]
 ·obtain ⟨b, c, rfl⟩ := h.slice
  exact ⟨b, c, rfl, Or.inl (by omega)⟩
theorem box_news (C : NN) (n : Nat) : [Value.int .u64 (C n 0), .int .u64 (C n 1), .int .u64 (C n 2), .int .u64 (C n 3), .int .u64 (C n 4), .int .u64 (C n 5)] = (List.range 6).map fun q => bxL C (n * 6 + q) := by
 have h : ∀ k, k < 6 -> flatF C (n * 6 + k) = C n k := fun k hk => by rw [show n * 6 + k = 6 * n + k by omega, zbF C n k hk]
 show _ = [bxL C (n * 6 + 0), bxL C (n * 6 + 1), bxL C (n * 6 + 2), bxL C (n * 6 + 3), bxL C (n * 6 + 4), bxL C (n * 6 + 5)]
 unfold bxL
 rw [h 0 (by omega), h 1 (by omega), h 2 (by omega), h 3 (by omega), h 4 (by omega), h 5 (by omega)]
end
section
open Go.RowKit
theorem zbm (P Q G H : Int) (a : OA) (n cap : Nat) (b : OA) (m c : Nat) (C : NN) (w : World) (h4 : Four P Q G H) (mm : m <= 9223372036854775807) (h : BoxsIn w b m C) :
  Calls prog 54 #[gv P Q G H a n cap, .slice b m c] w (Ret w (.bool (batB P Q m C))) := by
 have HX : Hid (BoxsIn w b m C) := h
 have HI : Hid (∀ x r wx, U64 x -> inI P Q x = r -> Calls prog 55 #[gv P Q G H a n cap, .int .u64 x] wx (Ret wx (.bool r))) := fun x r wx hx hr => by
  have := zcb P Q G H x a n cap wx h4.q0 h4.q1 hx.2
  rw [hr] at this
  exact this
 have HZ := lain1 w (gc P Q G H a n cap) 25
 have HG0 := fun w' ho => (HZ.then (W' := w') ho).row 0 (by simp)
 have HW0 : Hid (Old w (w.alloc (.cells (gc P Q G H a n cap) 25))) := HZ.old
 clear HZ h h4
 by_cases h1 : 1 <= m
 rotate_left
 ·have HV : Hid (batB P Q m C = false) := no_of fun hc => h1 (zaN.1 hc).1.1
  have h0 : m = 0 := by omega
  subst h0
  go_enter func54, ntmps54
  go_upto_region 1 with fail
  generalize w.alloc (.cells (gc P Q G H a n cap) 25) = W at *
  go_wp2_with fail
  go_ret
  exact ⟨zad HV.out.symm, HW0.out⟩
 by_cases h8 : m <= 8
 rotate_left
 ·have HV : Hid (batB P Q m C = false) := no_of fun hc => h8 (zaN.1 hc).1.2
  have k1 : ¬ (m : Int) < 1 := by omega
  have k2 : (8 : Int) < (m : Int) := by omega
  clear h1 h8
  go_enter func54, ntmps54
  go_upto_region 1 with fail
  generalize w.alloc (.cells (gc P Q G H a n cap) 25) = W at *
  go_wp2_with fail
  go_ret
  exact ⟨zad HV.out.symm, HW0.out⟩
 have k1 : ¬ (m : Int) < 1 := by omega
 have k2 : ¬ (8 : Int) < (m : Int) := by omega
 have H18 : Hid (1 <= m /\ m <= 8) := ⟨h1, h8⟩
 go_enter func54, ntmps54
 go_upto_region 1 with fail
 generalize w.alloc (.cells (gc P Q G H a n cap) 25) = W at *
 obtain ⟨gb, hgb⟩ : ∃ gb, gb = w.heap.size := ⟨_, rfl⟩
 have HG : Hid (∀ wx, Old W wx -> wx.heap[gb]? = some (.cells (gc P Q G H a n cap) 25 (0, 0))) := by rw [hgb]; exact HG0
 rw [<- hgb]
 clear hgb HG0
 go_wp2_with fail
 go_loopw [5] (fun iv wx => ∃ i : Nat, iv = .int .i64 (i : Int) /\ i <= m /\ Hid (Old W wx) /\ Hid (∀ j, j < i -> ∀ k, k < 6 -> inI P Q (C j k) = true)) (fun iv _ => m - (intOf iv).toNat)
 case atStart => exact ⟨0, rfl, Nat.zero_le _, Old.refl _, fun j hj => by omega⟩
 case round =>
  obtain ⟨i, rfl, hi, HO, HJ⟩ := hrel
  by_cases hlt : i < m
  ·go_upto_region 7 with fail
   go_loopw [6] (fun kv wx => ∃ k : Nat, kv = .int .i64 (k : Int) /\ k <= 3 /\ Hid (Old W wx) /\ Hid (∀ q, q < 2 * k -> inI P Q (C i q) = true)) (fun kv _ => 3 - (intOf kv).toNat)
   case atStart => exact ⟨0, rfl, Nat.zero_le _, HO, fun q hq => by omega⟩
   case round =>
    obtain ⟨k, rfl, hk, HO2, HK⟩ := hrel
    by_cases hkl : k < 3
    ·have k3 : (k : Int) < 3 := by omega
     rcases HX.out with h0 | ⟨bx, ox, hqx, _, hrx⟩
     ·omega
     have HU : Hid (∀ wx, Old wr wx -> wx.cell? ⟨bx, ox + i * 6 + k * 2, none⟩ = some (.int .u64 (C i (2 * k)))) := fun wx ho => by
      have := (((HW0.out.trans HO2.out).trans ho)).cellOf (hrx i hlt (2 * k) (by omega)).1
      rwa [show ox + i * 6 + 2 * k = ox + i * 6 + k * 2 by omega] at this
     have HV : Hid (∀ wx, Old wr wx -> wx.cell? ⟨bx, ox + i * 6 + k * 2 + 1, none⟩ = some (.int .u64 (C i (2 * k + 1)))) := fun wx ho => by
      have := (((HW0.out.trans HO2.out).trans ho)).cellOf (hrx i hlt (2 * k + 1) (by omega)).1
      rwa [show ox + i * 6 + (2 * k + 1) = ox + i * 6 + k * 2 + 1 by omega] at this
     have HUu : Hid (U64 (C i (2 * k)) /\ U64 (C i (2 * k + 1))) := ⟨(hrx i hlt (2 * k) (by omega)).2, (hrx i hlt (2 * k + 1) (by omega)).2⟩
     have HGr : Hid (∀ wx, Old wr wx -> wx.heap[gb]? = some (.cells (gc P Q G H a n cap) 25 (0, 0))) := fun wx ho => HG.out wx (HO2.out.trans ho)
     clear hrx
     subst hqx
     cases hu : inI P Q (C i (2 * k)) with
     | false =>
      have HIu : Hid (inI P Q (C i (2 * k)) = false) := hu
      have HN : Hid (batB P Q m C = false) := no_of fun hc => by have := (zaN.1 hc).2 i hlt (2 * k) (by omega); rw [hu] at this; cases this
      clear hu
      generalize C i (2 * k) = xu at *
      generalize C i (2 * k + 1) = xv at *
      go_upto_region 9 with fail
      refine zaa 22 [.k (gv P Q G H a n cap), .k (.slice (some ⟨bx, ox, none⟩) m c), .k (.int .i64 (i : Int)), .k (.int .i64 (k : Int)), .k (.pointer (some ⟨bx, ox + i * 6, none⟩)), .k (.pointer (some ⟨bx, ox + i * 6 + k * 2, none⟩)), .k (.pointer (some ⟨bx, ox + i * 6 + k * 2, none⟩)), .k (.int .u64 xu), .k (.bool false), .k (.bool true), .k (.bool true), .k undef, .k undef, .k undef, .k undef, .k undef, .k undef, .k undef, .k undef, .k undef, .k undef, .k (.bool true)] (Old wr) (by kernel_rfl) (by kernel_rfl) rfl ((Old.refl _).drew) ?st ?_
      case st =>
       refine .c (sts underlying25 HGr.out) <| .c stp <| .c stp <| .c stp <| .c (stj (n := m) (c := c) 6 hlt underlying26) <| .c (saj 2 hkl underlying74) <| .c stp <| .c (stl underlying22 HU.out) <| .c (stK old_R func55 (fun wy _ => HI.out xu false wy HUu.out.1 HIu.out)) <| .c stp <| .c stp <| .c stn <| .c stn <| .c stn <| .c stn <| .c stn <| .c stn <| .c stn <| .c stn <| .c stn <| .c stn <| .c stp .n
      intro t wz hR hk2
      simp only [fill, Ent.val, List.set_cons_zero, List.set_cons_succ, List.drop_succ_cons, List.drop_zero, List.drop_nil]
      have HO3 : Hid (Old W wz) := HO2.out.trans hR
      clear hR hk2
      go_wp2_with fail
      go_ret
      exact ⟨zad HN.out.symm, HW0.out.trans HO3.out⟩
     | true =>
      have HIu : Hid (inI P Q (C i (2 * k)) = true) := hu
      clear hu
      cases hv : inI P Q (C i (2 * k + 1)) with
      | false =>
       have HIv : Hid (inI P Q (C i (2 * k + 1)) = false) := hv
       have HN : Hid (batB P Q m C = false) := no_of fun hc => by have := (zaN.1 hc).2 i hlt (2 * k + 1) (by omega); rw [hv] at this; cases this
       clear hv
       generalize C i (2 * k) = xu at *
       generalize C i (2 * k + 1) = xv at *
       go_upto_region 9 with fail
       refine zaa 22 [.k (gv P Q G H a n cap), .k (.slice (some ⟨bx, ox, none⟩) m c), .k (.int .i64 (i : Int)), .k (.int .i64 (k : Int)), .k (.pointer (some ⟨bx, ox + i * 6, none⟩)), .k (.pointer (some ⟨bx, ox + i * 6 + k * 2, none⟩)), .k (.pointer (some ⟨bx, ox + i * 6 + k * 2, none⟩)), .k (.int .u64 xu), .k (.bool true), .k (.bool false), .k (.bool false), .k (gv P Q G H a n cap), .k (.slice (some ⟨bx, ox, none⟩) m c), .k (.int .i64 (i : Int)), .k (.int .i64 (k : Int)), .k (.pointer (some ⟨bx, ox + i * 6, none⟩)), .k (.pointer (some ⟨bx, ox + i * 6 + k * 2, none⟩)), .k (.pointer (some ⟨bx, ox + i * 6 + k * 2 + 1, none⟩)), .k (.int .u64 xv), .k (.bool false), .k (.bool true), .k (.bool true)] (Old wr) (by kernel_rfl) (by kernel_rfl) rfl ((Old.refl _).drew) ?st ?_
       case st =>
        refine .c (sts underlying25 HGr.out) <| .c stp <| .c stp <| .c stp <| .c (stj (n := m) (c := c) 6 hlt underlying26) <| .c (saj 2 hkl underlying74) <| .c stp <| .c (stl underlying22 HU.out) <| .c (stK old_R func55 (fun wy _ => HI.out xu true wy HUu.out.1 HIu.out)) <| .c stp <| .c stp <| .c (sts underlying25 HGr.out) <| .c stp <| .c stp <| .c stp <| .c (stj (n := m) (c := c) 6 hlt underlying26) <| .c (saj 2 hkl underlying74) <| .c stp <| .c (stl underlying22 HV.out) <| .c (stK old_R func55 (fun wy _ => HI.out xv false wy HUu.out.2 HIv.out)) <| .c stp <| .c stp .n
       intro t wz hR hk2
       simp only [fill, Ent.val, List.set_cons_zero, List.set_cons_succ, List.drop_succ_cons, List.drop_zero, List.drop_nil]
       have HO3 : Hid (Old W wz) := HO2.out.trans hR
       clear hR hk2
       go_wp2_with fail
       go_ret
       exact ⟨zad HN.out.symm, HW0.out.trans HO3.out⟩
      | true =>
       have HIv : Hid (inI P Q (C i (2 * k + 1)) = true) := hv
       have HK2 : Hid (∀ q, q < 2 * (k + 1) -> inI P Q (C i q) = true) := fun q hq => by
        by_cases q1 : q < 2 * k
        ·exact HK.out q q1
        ·by_cases q2 : q = 2 * k
         ·rw [q2]; exact HIu.out
         ·rw [show q = 2 * k + 1 by omega]; exact hv
       clear hv HK
       generalize C i (2 * k) = xu at *
       generalize C i (2 * k + 1) = xv at *
       go_upto_region 9 with fail
       refine zaa 22 [.k (gv P Q G H a n cap), .k (.slice (some ⟨bx, ox, none⟩) m c), .k (.int .i64 (i : Int)), .k (.int .i64 (k : Int)), .k (.pointer (some ⟨bx, ox + i * 6, none⟩)), .k (.pointer (some ⟨bx, ox + i * 6 + k * 2, none⟩)), .k (.pointer (some ⟨bx, ox + i * 6 + k * 2, none⟩)), .k (.int .u64 xu), .k (.bool true), .k (.bool false), .k (.bool false), .k (gv P Q G H a n cap), .k (.slice (some ⟨bx, ox, none⟩) m c), .k (.int .i64 (i : Int)), .k (.int .i64 (k : Int)), .k (.pointer (some ⟨bx, ox + i * 6, none⟩)), .k (.pointer (some ⟨bx, ox + i * 6 + k * 2, none⟩)), .k (.pointer (some ⟨bx, ox + i * 6 + k * 2 + 1, none⟩)), .k (.int .u64 xv), .k (.bool true), .k (.bool false), .k (.bool false)] (Old wr) (by kernel_rfl) (by kernel_rfl) rfl ((Old.refl _).drew) ?st ?_
       case st =>
        refine .c (sts underlying25 HGr.out) <| .c stp <| .c stp <| .c stp <| .c (stj (n := m) (c := c) 6 hlt underlying26) <| .c (saj 2 hkl underlying74) <| .c stp <| .c (stl underlying22 HU.out) <| .c (stK old_R func55 (fun wy _ => HI.out xu true wy HUu.out.1 HIu.out)) <| .c stp <| .c stp <| .c (sts underlying25 HGr.out) <| .c stp <| .c stp <| .c stp <| .c (stj (n := m) (c := c) 6 hlt underlying26) <| .c (saj 2 hkl underlying74) <| .c stp <| .c (stl underlying22 HV.out) <| .c (stK old_R func55 (fun wy _ => HI.out xv true wy HUu.out.2 HIv.out)) <| .c stp <| .c stp .n
       intro t wz hR hk2
       simp only [fill, Ent.val, List.set_cons_zero, List.set_cons_succ, List.drop_succ_cons, List.drop_zero, List.drop_nil]
       have HO3 : Hid (Old W wz) := HO2.out.trans hR
       clear hR hk2
       go_wp2_with fail
       go_roundw
       case rel => exact ⟨k + 1, zac k, by omega, HO3, HK2⟩
       case measure => simp [intOf]; omega
    ·have hk3 : k = 3 := by omega
     subst hk3
     go_wp2_with fail
     go_roundw
     case rel => exact ⟨i + 1, zac i, by omega, HO2, zaz HJ.out (fun q hq => HK.out q (by omega))⟩
     case measure => simp [intOf]; omega
  ·have he : m = i := by omega
   have HV : Hid (batB P Q m C = true) := zaN.2 ⟨H18.out, by rw [he]; exact HJ.out⟩
   subst he
   go_wp2_with fail
   go_ret
   exact ⟨zad HV.out.symm, HW0.out.trans HO.out⟩
def ordR (n : Nat) (O : NI) : Bool := decide (n <= 8) && ordB n O
theorem zdH {n : Nat} {O : NI} : ordR n O = true ↔ (1 <= n /\ n <= 8) /\ ∀ k, k < n -> ordK8 O (k : Nat) n = 1 := by
 unfold ordR
 rw [Bool.and_eq_true_iff, decide_eq_true_eq, zaM]
 exact ⟨fun ⟨h8, h⟩ => ⟨⟨h.1, h8⟩, h.once⟩, fun ⟨h1, h⟩ => ⟨h1.2, ordP_of_once h1.1 h⟩⟩
theorem ordK8_le2 (O : NI) (k : Int) : ∀ n, ordK8 O k n <= n
 | 0 => Nat.le_refl 0
 | n + 1 => by
  show ordK8 O k n + (if O n = k then 1 else 0) <= n + 1
  have := ordK8_le2 O k n
  split <;> omega
theorem rorder8_any (b : OA) (n c : Nat) (O : NI) (w : World) (mm : n <= 9223372036854775807) (h : IntsIn w b n O) :
  Calls prog 56 #[.slice b n c] w (Ret w (.bool (ordR n O))) := by
 have HX : Hid (IntsIn w b n O) := h
 clear h
 by_cases h1 : 1 <= n
 rotate_left
 ·have HV : Hid (ordR n O = false) := no_of fun hc => h1 (zdH.1 hc).1.1
  have h0 : n = 0 := by omega
  subst h0
  go_enter func56, ntmps56
  go_wp2_with fail
  go_ret
  exact ⟨zad HV.out.symm, Old.refl _⟩
 by_cases h8 : n <= 8
 rotate_left
 ·have HV : Hid (ordR n O = false) := no_of fun hc => h8 (zdH.1 hc).1.2
  have k1 : ¬ (n : Int) < 1 := by omega
  have k2 : (8 : Int) < (n : Int) := by omega
  clear h1 h8
  go_enter func56, ntmps56
  go_wp2_with fail
  go_ret
  exact ⟨zad HV.out.symm, Old.refl _⟩
 have k1 : ¬ (n : Int) < 1 := by omega
 have k2 : ¬ (8 : Int) < (n : Int) := by omega
 have H18 : Hid (1 <= n /\ n <= 8) := ⟨h1, h8⟩
 go_enter func56, ntmps56
 go_wp2_with fail
 go_loopw [3] (fun kv wx => ∃ k : Nat, kv = .int .i64 (k : Int) /\ k <= n /\ Hid (Old w wx) /\ Hid (∀ j, j < k -> ordK8 O (j : Nat) n = 1)) (fun kv _ => n - (intOf kv).toNat)
 case atStart => exact ⟨0, rfl, Nat.zero_le _, Old.refl _, fun j hj => by omega⟩
 case round =>
  obtain ⟨k, rfl, hk, HO, HJ⟩ := hrel
  by_cases hlt : k < n
  ·go_upto_region 8 with fail
   go_loopw [4, 5] (fun nv iv wx => ∃ i : Nat, iv = .int .i64 (i : Int) /\ i <= n /\ nv = .int .i64 ((ordK8 O (k : Int) i : Nat) : Int) /\ Hid (Old w wx)) (fun _ iv _ => n - (intOf iv).toNat)
   case atStart => exact ⟨0, rfl, Nat.zero_le _, rfl, HO⟩
   case round =>
    obtain ⟨i, rfl, hi, rfl, HO2⟩ := hrel
    by_cases hil : i < n
    ·rcases HX.out with h0 | ⟨bx, ox, hqx, _, hrx⟩
     ·omega
     have cx := (HO2.out).cellOf (hrx i hil).1
     clear hrx
     subst hqx
     have hle := ordK8_le2 O (k : Int) i
     by_cases he : O i = (k : Int)
     ·have HK : Hid (ordK8 O (k : Int) (i + 1) = ordK8 O (k : Int) i + 1) := by show ordK8 O (k : Int) i + (if O i = (k : Int) then 1 else 0) = _; rw [if_pos he]
      rw [he] at cx
      clear he
      generalize ordK8 O (k : Int) i = cn at *
      go_wp2_with fail
      go_roundw
      case rel => exact ⟨i + 1, zac i, by omega, by rw [HK.out]; exact zac cn, HO2⟩
      case measure => simp [intOf]; omega
     ·have HK : Hid (ordK8 O (k : Int) (i + 1) = ordK8 O (k : Int) i) := by show ordK8 O (k : Int) i + (if O i = (k : Int) then 1 else 0) = _; rw [if_neg he]; rfl
      generalize ordK8 O (k : Int) i = cn at *
      go_wp2_with fail
      go_roundw
      case rel => exact ⟨i + 1, zac i, by omega, by rw [HK.out], HO2⟩
      case measure => simp [intOf]; omega
    ·have hie : n = i := by omega
     subst hie
     by_cases he : ordK8 O (k : Int) n = 1
     ·have HE : Hid (ordK8 O (k : Nat) n = 1) := he
      rw [he]
      clear he
      go_wp2_with fail
      go_roundw
      case rel => exact ⟨k + 1, zac k, by omega, HO2, zaz HJ.out HE.out⟩
      case measure => simp [intOf]; omega
     ·have HN : Hid (ordR n O = false) := no_of fun hc => he ((zdH.1 hc).2 k hlt)
      have k3 : ¬ ((ordK8 O (k : Int) n : Nat) : Int) = 1 := by omega
      clear he
      generalize ordK8 O (k : Int) n = cn at *
      go_wp2_with fail
      go_ret
      exact ⟨zad HN.out.symm, HO2.out⟩
  ·have he : n = k := by omega
   have HV : Hid (ordR n O = true) := zdH.2 ⟨H18.out, by rw [he]; rw [he] at HJ; exact HJ.out⟩
   subst he
   go_wp2_with fail
   go_ret
   exact ⟨zad HV.out.symm, HO.out⟩
end
end Go.Proofs.YtlnmjbbpenhdbaaGreat
