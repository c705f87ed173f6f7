/-
  What the proof needs, part 17.
-/
import Derived.Test.YtlnmjbbpenhdbaaGreatKp16
namespace Go.Proofs.YtlnmjbbpenhdbaaGreat
open Tryz
open List renaming set_cons_zero → zs0, set_cons_succ → zs1, drop_succ_cons → zd1, drop_zero → zd0, drop_nil → zdn
open Tryz renaming underlying22 → U22, underlying25 → U25, underlying26 → U26, underlying31 → U31, underlying57 → U57, underlying69 → U69, underlying74 → U74
set_option linter.unusedSimpArgs false
set_option linter.unusedVariables false
set_option maxRecDepth 100000
set_option maxHeartbeats 32000000
section
open Go.RowKit
theorem zbu {P : Program} {W : World} {b : Nat} {p0 q0 r0 s0 u0 p q r s u : Value} {t ty : TypeId} {fs : Array Field} (h : W.heap[b]? = some (.cells #[p0, q0, r0, s0, u0] t (0, 0))) (hu : P.underlying ty = some (.struct fs)) (hi : (P.info? ty).map (·.size) = some 5) :
  (loadVar ty ⟨b, 0, none⟩).run P (((((W.setCell ⟨b, 0, none⟩ p).setCell ⟨b, 1, none⟩ q).setCell ⟨b, 2, none⟩ r).setCell ⟨b, 3, none⟩ s).setCell ⟨b, 4, none⟩ u) = .ok (.agg #[p, q, r, s, u]) (((((W.setCell ⟨b, 0, none⟩ p).setCell ⟨b, 1, none⟩ q).setCell ⟨b, 2, none⟩ r).setCell ⟨b, 3, none⟩ s).setCell ⟨b, 4, none⟩ u) :=
 run_loadVar_row _ b t ty #[p, q, r, s, u] (0, 0) _ (by
  have := zaq (zaq (zaq (zaq (zaq h 0 p) 1 q) 2 r) 3 s) 4 u
  simpa using this) hu rfl hi
theorem Old.five {a W : World} (h : Old a W) {b : Nat} (hb : a.heap.size <= b) (p q r s u : Value) : Old a (((((W.setCell ⟨b, 0, none⟩ p).setCell ⟨b, 1, none⟩ q).setCell ⟨b, 2, none⟩ r).setCell ⟨b, 3, none⟩ s).setCell ⟨b, 4, none⟩ u) :=
 ((((h.setCell (p := ⟨b, 0, none⟩) hb _).setCell (p := ⟨b, 1, none⟩) hb _).setCell (p := ⟨b, 2, none⟩) hb _).setCell (p := ⟨b, 3, none⟩) hb _).setCell (p := ⟨b, 4, none⟩) hb _
theorem spro_no (P Q G H : Int) (a : OA) (m cap : Nat) (label : List Int) (y : Int) (bi : OA) (l ci : Nat) (C : NN) (bo : OA) (no co : Nat) (O : NI) (bρ : OA) (nρ cρ : Nat) (Rh : NN) (bR : OA) (nR cR : Nat) (bS : OA) (nS cS : Nat) (bT : OA) (nT cT : Nat) (bD : OA) (nD cD : Nat) (M : NN) (A B Pp : NI) (nt : Nat) (K : NI) (nz : Nat) (Zf : NI) (w : World) (h4 : Four P Q G H) (hr : Righ P Q G) (hy : U64 y) (ml : l <= 80) (mo : no <= 80) (mρ : nρ <= 80) (hC : BoxsIn w bi l C) (hO : IntsIn w bo no O) (hρ : RhoIn w bρ nρ Rh) (hok : (mixB P Q y l C no O nρ && drwB l nR nS nT nD) = false) :
  Calls prog 31 #[gv P Q G H a m cap, .string (strOfNums label), .int .u64 y, .slice bi l ci, .slice bo no co, dv bρ nρ cρ bR nR cR bS nS cS bT nT cT bD nD cD] w (GivS w (mixB P Q y l C no O nρ && drwB l nR nS nT nD) l M A B Pp nt K nz Zf) := by
 have HMx := fun wx (ho : Old w wx) => smix_any P Q G H a m cap y bi l ci C bo no co O bρ nρ cρ Rh wx h4 hr hy (by omega) (by omega) (by omega) (hC.old ho) (hO.old ho) (hρ.old ho)
 generalize mixC P Q G y C O Rh = M0 at HMx
 have HNo := hid hok
 have HDr : Hid (mixB P Q y l C no O nρ = true -> ∀ wx, Calls prog 88 #[dv bρ nρ cρ bR nR cR bS nS cS bT nT cT bD nD cD, .int .i64 (l : Int)] wx (Ret wx (.bool false))) := fun hm wx => by
  have h8 : l <= 8 := by
   unfold mixB at hm
   simp only [Bool.and_eq_true_iff, decide_eq_true_eq] at hm
   exact (zaM.1 hm.2.2.2.1).1.2
  have := zfb bρ nρ cρ bR nR cR bS nS cS bT nT cT bD nD cD l wx h8
  rw [hm, Bool.true_and] at hok
  rwa [hok] at this
 clear hC hO hρ h4 hr hy hok
 generalize mixB P Q y l C no O nρ = mb at *
 generalize drwB l nR nS nT nD = db at *
 have HZ := lain3 w (gc P Q G H a m cap) (dvc bρ nρ cρ bR nR cR bS nS cS bT nT cT bD nD cD) #[.slice none 0 0, .slice none 0 0, .slice none 0 0, .slice none 0 0, .slice none 0 0] 25 31 57
 have HG0 := fun w' ho => (HZ.then (W' := w') ho).row 0 (by simp)
 have HD0 := fun w' ho => (HZ.then (W' := w') ho).row 1 (by simp)
 have HS0 := fun w' ho => (HZ.then (W' := w') ho).row 2 (by simp)
 have HW0 := hid HZ.old
 clear HZ
 go_enter func31, ntmps31
 go_upto_region 1 with fail
 generalize ((w.alloc (.cells (gc P Q G H a m cap) 25)).alloc (.cells (dvc bρ nρ cρ bR nR cR bS nS cS bT nT cT bD nD cD) 31)).alloc (.cells #[.slice none 0 0, .slice none 0 0, .slice none 0 0, .slice none 0 0, .slice none 0 0] 57) = W1 at *
 have HG := hid HG0
 have HDd := hid HD0
 have HSh := hid HS0
 clear HG0 HD0 HS0
 obtain ⟨gb, hgb⟩ : ∃ gb, gb = w.heap.size := ⟨_, rfl⟩
 rw [<- hgb] at HG HDd HSh
 rw [<- hgb]
 have HGs : Hid (w.heap.size <= gb + 1 + 1) := by unfold Hid; omega
 clear hgb
 have HGc : Hid (∀ wx, Old W1 wx -> G5 wx (gb) P Q G H (.slice a m cap)) := fun wx ho => g5 (HG.out _ ho)
 have HDc : Hid (∀ wx, Old W1 wx -> wx.cell? ⟨gb + 1, 0, none⟩ = some (.slice bρ nρ cρ) /\ wx.cell? ⟨gb + 1, 1, none⟩ = some (.slice bR nR cR) /\ wx.cell? ⟨gb + 1, 2, none⟩ = some (.slice bS nS cS) /\ wx.cell? ⟨gb + 1, 3, none⟩ = some (.slice bT nT cT) /\ wx.cell? ⟨gb + 1, 4, none⟩ = some (.slice bD nD cD)) := fun wx ho => g5 (HDd.out _ ho)
 have HSc : Hid (∀ wx, Old W1 wx -> (wx.cell? ⟨gb + 1 + 1, 0, none⟩ = some (.slice none 0 0) /\ wx.cell? ⟨gb + 1 + 1, 1, none⟩ = some (.slice none 0 0) /\ wx.cell? ⟨gb + 1 + 1, 2, none⟩ = some (.slice none 0 0) /\ wx.cell? ⟨gb + 1 + 1, 3, none⟩ = some (.slice none 0 0) /\ wx.cell? ⟨gb + 1 + 1, 4, none⟩ = some (.slice none 0 0)) /\ ∀ j, wx.frozen? ⟨gb + 1 + 1, j, none⟩ = false) := fun wx ho => ⟨g5 (HSh.out _ ho), fun j => zac (HSh.out _ ho) j⟩
 obtain ⟨g0, g1, g2, g3, g4⟩ := HGc.out _ (Old.refl _)
 obtain ⟨d0, d1, d2, d3, d4⟩ := HDc.out _ (Old.refl _)
 have HMh := hid HMx
 clear HMx
 cases mb with
 | false =>
  go_upto_region 2 with (go_at_call 15; refine (HMh.out _ HW0.out).mono ?_; rintro e w2 ⟨o2, bm, rfl, hbm⟩; simp only [Bool.false_eq_true, if_false])
  clear g0 g1 g2 g3 g4 d0 d1 d2 d3 d4 hbm
  have HO2 := hid o2
  clear o2
  go_upto_region 3 with fail
  obtain ⟨⟨s0, s1, s2, s3, s4⟩, hf⟩ := HSc.out _ HO2.out
  have f0 := hf 0
  have f1 := hf 1
  have f2 := hf 2
  have f3 := hf 3
  have f4 := hf 4
  clear hf
  go_wp2_with fail
  exact bodyPost_ret (zaV (b := gb + 1 + 1) rfl rfl rfl rfl (zbu (HSh.out _ HO2.out) U57 zaT)) rfl (zcV HNo.out ((HW0.out.trans HO2.out).five HGs.out _ _ _ _ _))
 | true =>
  go_upto_region 2 with (go_at_call 15; refine (HMh.out _ HW0.out).mono ?_; rintro e w2 ⟨o2, bm, rfl, hbm⟩; simp only [if_true])
  clear g0 g1 g2 g3 g4 d0 d1 d2 d3 d4 hbm
  have HO2 := hid o2
  clear o2
  obtain ⟨d0, d1, d2, d3, d4⟩ := HDc.out _ HO2.out
  go_upto_region 3 with (go_at_call 88; refine (HDr.out rfl _).mono ?_; rintro e w3 ⟨rfl, o3⟩)
  have HO3 := hid (HO2.out.trans o3)
  clear d0 d1 d2 d3 d4 o3
  obtain ⟨⟨s0, s1, s2, s3, s4⟩, hf⟩ := HSc.out _ HO3.out
  have f0 := hf 0
  have f1 := hf 1
  have f2 := hf 2
  have f3 := hf 3
  have f4 := hf 4
  clear hf
  go_wp2_with fail
  exact bodyPost_ret (zaV (b := gb + 1 + 1) rfl rfl rfl rfl (zbu (HSh.out _ HO3.out) U57 zaT)) rfl (zcV HNo.out ((HW0.out.trans HO3.out).five HGs.out _ _ _ _ _))
def mxX (P Q G H : Int) (label : List Int) (y : Int) (n : Nat) (C : NN) (O : NI) (Rh : NN) (R : NI) : Int := chX label Q (knwS P Q G H y n C n (mixC P Q G y C O Rh)) n (aF P Q G H O R)
def mxC (c P Q G H : Int) (label : List Int) (y : Int) (n : Nat) (C : NN) (O : NI) (Rh : NN) (R S : NI) : Int := chYZ c label Q (knwS P Q G H y n C n (mixC P Q G y C O Rh)) n (aF P Q G H O R) (bF P Q G H (mxX P Q G H label y n C O Rh R) O S)
def mxB (P Q G H : Int) (label : List Int) (y : Int) (n : Nat) (C : NN) (O : NI) (Rh : NN) (R S : NI) : Nat -> Int := bF P Q G H (mxX P Q G H label y n C O Rh R) O S
def mxP (P Q G H : Int) (label : List Int) (y : Int) (n : Nat) (C : NN) (O : NI) (Rh : NN) (R S T : NI) : Nat -> Int := pF P Q G H (mxX P Q G H label y n C O Rh R) (mxC 121 P Q G H label y n C O Rh R S) (mxC 122 P Q G H label y n C O Rh R S) O R S T
def mxT (P Q G H : Int) (label : List Int) (y : Int) (n : Nat) (C : NN) (O : NI) (Rh : NN) (R S T : NI) : Nat -> Int := tgtT P Q G (mxX P Q G H label y n C O Rh R) (mxC 121 P Q G H label y n C O Rh R S) (mxC 122 P Q G H label y n C O Rh R S) n (aF P Q G H O R) (mxB P Q G H label y n C O Rh R S) (mxP P Q G H label y n C O Rh R S T) (uC C) (vC C)
def mxS (P Q G H : Int) (label : List Int) (y : Int) (n : Nat) (C : NN) (O : NI) (Rh : NN) (R S T : NI) : Nat -> Nat -> Int := bas8 n (mxP P Q G H label y n C O Rh R S T) G H y (uC (mixC P Q G y C O Rh)) (vC (mixC P Q G y C O Rh))
def mxE (P Q G H : Int) (label : List Int) (y : Int) (n : Nat) (C : NN) (O : NI) (Rh : NN) (R S T : NI) : Nat -> Int := exF Q (mxX P Q G H label y n C O Rh R) (mxC 121 P Q G H label y n C O Rh R S) (mxC 122 P Q G H label y n C O Rh R S) n (fun i => (O i).toNat) R S T Rh
def mxK (P Q G H : Int) (label : List Int) (y : Int) (n : Nat) (C : NN) (O : NI) (Rh : NN) (R S T D : NI) : Nat -> Int := fun j => imI P Q (mxS P Q G H label y n C O Rh R S T j) D (7 * n + 3)
def mxH (P Q G H : Int) (label : List Int) (y : Int) (n : Nat) (C : NN) (O : NI) (Rh : NN) (R S T D : NI) : Int := chI label P Q G H (4 * n + 6) (mxT P Q G H label y n C O Rh R S T) (4 * n + 6) (fun _ => 7 * n + 3) (mxS P Q G H label y n C O Rh R S T) (4 * n + 6) (mxK P Q G H label y n C O Rh R S T D)
def mxZ (P Q G H : Int) (label : List Int) (y : Int) (n : Nat) (C : NN) (O : NI) (Rh : NN) (R S T D : NI) : Nat -> Int := fun k => ansI Q (mxH P Q G H label y n C O Rh R S T D) (mxE P Q G H label y n C O Rh R S T k) (D k)
theorem mix8_of {P Q G H y : Int} {w : World} {n no nρ : Nat} {C : NN} {O : NI} {Rh : NN} {R S T : NI} {bρ bR bS bT : OA} (hr : Righ P Q G) (hin : inI P Q H = true) (hm : mixB P Q y n C no O nρ = true) (hρ : RhoIn w bρ nρ Rh) (hR : FacsIn w bR n R) (hS : FacsIn w bS n S) (hT : FacsIn w bT n T) : Mix8 P Q G H y n C O Rh R S T := by
 unfold mixB at hm
 simp only [Bool.and_eq_true_iff, decide_eq_true_eq] at hm
 obtain ⟨h1, h2, h3, h5, h6⟩ := hm
 subst h1 h2
 obtain ⟨⟨h7, h8⟩, h9⟩ := zaM.1 h5
 exact ⟨hr, hin, h6, h7, h8, zaA.1 h3, h9, fun i hi => (hR.u64 i hi).1, fun i hi => (hS.u64 i hi).1, fun i hi => (hT.u64 i hi).1, fun i hi k hk => (hρ.u64 hi hk).1⟩
theorem zdy (P Q G H : Int) (a : OA) (m cap : Nat) (label : List Int) (y : Int) (bi : OA) (l ci : Nat) (C : NN) (bo : OA) (no co : Nat) (O : NI) (bρ : OA) (nρ cρ : Nat) (Rh : NN) (bR : OA) (nR cR : Nat) (R : NI) (bS : OA) (nS cS : Nat) (S : NI) (bT : OA) (nT cT : Nat) (T : NI) (bD : OA) (nD cD : Nat) (D : NI) (w : World) (h4 : Four P Q G H) (hr : Righ P Q G) (hin : inI P Q H = true) (hy : U64 y) (hlb : Bts label) (hll : label.length <= 1000) (ml : l <= 80) (mo : no <= 80) (mρ : nρ <= 80) (hcT : nT <= cT /\ cT <= 9223372036854775807) (hcD : nD <= cD)
  (hC : BoxsIn w bi l C) (hO : IntsIn w bo no O) (hρ : RhoIn w bρ nρ Rh) (hR : FacsIn w bR nR R) (hS : FacsIn w bS nS S) (hT : FacsIn w bT nT T) (hD : FacsIn w bD nD D) :
  Calls prog 31 #[gv P Q G H a m cap, .string (strOfNums label), .int .u64 y, .slice bi l ci, .slice bo no co, dv bρ nρ cρ bR nR cR bS nS cS bT nT cT bD nD cD] w (GivS w (mixB P Q y l C no O nρ && drwB l nR nS nT nD) l (mixC P Q G y C O Rh) (aF P Q G H O R) (mxB P Q G H label y l C O Rh R S) (mxP P Q G H label y l C O Rh R S T) (4 * l + 6) (mxK P Q G H label y l C O Rh R S T D) (7 * l + 3) (mxZ P Q G H label y l C O Rh R S T D)) := by
 cases hok : (mixB P Q y l C no O nρ && drwB l nR nS nT nD) with
 | false =>
  rw [<- hok]
  exact spro_no P Q G H a m cap label y bi l ci C bo no co O bρ nρ cρ Rh bR nR cR bS nS cS bT nT cT bD nD cD _ _ _ _ _ _ _ _ w h4 hr hy ml mo mρ hC hO hρ hok
 | true =>
  obtain ⟨hm, hd⟩ := Bool.and_eq_true_iff.1 hok
  obtain ⟨e1, e2, e3, e4⟩ := zb4.1 hd
  have hm' := hm
  unfold mixB at hm'
  simp only [Bool.and_eq_true_iff, decide_eq_true_eq] at hm'
  obtain ⟨e5, e6, h3, h5, h6⟩ := hm'
  subst e1 e2 e3 e5 e6
  have M := mix8_of hr hin hm hρ hR hS hT
  have uY : U64 (mxC 121 P Q G H label y nρ C O Rh R S) := by unfold mxC chYZ; exact zas _ _ _ _
  have uZ : U64 (mxC 122 P Q G H label y nρ C O Rh R S) := by unfold mxC chYZ; exact zas _ _ _ _
  have hsz := (M.claim (mxX P Q G H label y nρ C O Rh R) uY.1 uZ.1).size
  exact lpro_any P Q G H a m cap label y bi ci C bo co O bρ cρ Rh bR cR R bS cS S bT cT T bD nD cD D nρ (mxX P Q G H label y nρ C O Rh R) (mxC 121 P Q G H label y nρ C O Rh R S) (mxC 122 P Q G H label y nρ C O Rh R S) (aF P Q G H O R) (mxB P Q G H label y nρ C O Rh R S) (mxP P Q G H label y nρ C O Rh R S T) (mixC P Q G y C O Rh) (mxE P Q G H label y nρ C O Rh R S T) (mxK P Q G H label y nρ C O Rh R S T D) (mxZ P Q G H label y nρ C O Rh R S T D) w M.n1 M.n8 h4 hr hy hlb hll hcT hcD hC hO hρ hR hS hT hD hm hd h3 rfl rfl rfl rfl rfl rfl rfl rfl (congrArg (fun z => fun j => imI P Q (mxS P Q G H label y nρ C O Rh R S T j) D z) hsz.symm) rfl (M.clm _ uY.1 uZ.1) (M.prov _ uY.1 uZ.1 e4)
end
section
def kN : List Nat := kList.map Int.toNat
def rotN (x n : Nat) : Nat := (x >>> n) ||| (x <<< (32 - n) % 4294967296)
def low0N (x : Nat) : Nat := (rotN x 7 ^^^ rotN x 18) ^^^ (x >>> 3)
def low1N (x : Nat) : Nat := (rotN x 17 ^^^ rotN x 19) ^^^ (x >>> 10)
def big1N (x : Nat) : Nat := (rotN x 6 ^^^ rotN x 11) ^^^ rotN x 25
def big0N (x : Nat) : Nat := (rotN x 2 ^^^ rotN x 13) ^^^ rotN x 22
def pickN (e f g : Nat) : Nat := (e &&& f) ||| ((4294967295 ^^^ e) &&& g)
def mostN (a b c : Nat) : Nat := ((a &&& b) ||| (a &&& c)) ||| (b &&& c)
def runN : List Nat -> (w0 w1 w2 w3 w4 w5 w6 w7 w8 w9 w10 w11 w12 w13 w14 w15 : Nat) -> (a b c d e f g h : Nat) -> List Nat
 | [], _, _, _, _, _, _, _, _, _, _, _, _, _, _, _, _, a, b, c, d, e, f, g, h => [a, b, c, d, e, f, g, h]
 | k :: ks, w0, w1, w2, w3, w4, w5, w6, w7, w8, w9, w10, w11, w12, w13, w14, w15, a, b, c, d, e, f, g, h =>
  runN ks w1 w2 w3 w4 w5 w6 w7 w8 w9 w10 w11 w12 w13 w14 w15 ((w0 + low0N w1 + w9 + low1N w14) % 4294967296)
   ((h + big1N e + pickN e f g + k + w0 + (big0N a + mostN a b c)) % 4294967296) a b c ((d + (h + big1N e + pickN e f g + k + w0)) % 4294967296) e f g
abbrev U32 (n : Nat) : Prop := n < 4294967296
theorem zeq {a b : Nat} (ha : U32 a) (hb : U32 b) : or32 (a : Int) (b : Int) = ((a ||| b : Nat) : Int) := u32_or_nat a b ha hb
theorem zce {a b : Nat} (ha : U32 a) (hb : U32 b) : xor32 (a : Int) (b : Int) = ((a ^^^ b : Nat) : Int) := u32_xor_nat a b ha hb
theorem zd7 {a b : Nat} (ha : U32 a) (hb : U32 b) : and32 (a : Int) (b : Int) = ((a &&& b : Nat) : Int) := u32_and_nat a b ha hb
theorem not_nat {a : Nat} (ha : U32 a) : not32 (a : Int) = ((4294967295 ^^^ a : Nat) : Int) := u32_xor_nat 4294967295 a (by omega) ha
theorem or_lt {a b : Nat} (ha : U32 a) (hb : U32 b) : U32 (a ||| b) := Nat.or_lt_two_pow (n := 32) ha hb
theorem zc4 {a b : Nat} (ha : U32 a) (hb : U32 b) : U32 (a ^^^ b) := Nat.xor_lt_two_pow (n := 32) ha hb
theorem zd8 {a b : Nat} (ha : U32 a) : U32 (a &&& b) := Nat.lt_of_le_of_lt Nat.and_le_left ha
theorem zfa {a : Nat} (n : Nat) (ha : U32 a) : U32 (a >>> n) := by
 rw [Nat.shiftRight_eq_div_pow]
 exact Nat.lt_of_le_of_lt (Nat.div_le_self _ _) ha
theorem zaB {x n : Nat} (hx : U32 x) : U32 (rotN x n) := or_lt (zfa n hx) (Nat.mod_lt _ (by omega))
theorem zbL {x : Nat} (n : Nat) (hx : U32 x) : rot (x : Int) n = (rotN x n : Int) := by
 unfold rot rotN
 have e1 : (x : Int) / 2 ^ n = ((x >>> n : Nat) : Int) := by
  rw [Nat.shiftRight_eq_div_pow, Int.natCast_ediv, Int.natCast_pow]
  rfl
 have e2 : (x : Int) * 2 ^ (32 - n) % 4294967296 = ((x <<< (32 - n) % 4294967296 : Nat) : Int) := by
  rw [Nat.shiftLeft_eq, Int.natCast_emod, Int.natCast_mul, Int.natCast_pow]
  rfl
 rw [e1, e2]
 exact zeq (zfa n hx) (Nat.mod_lt _ (by omega))
theorem low0_nat {x : Nat} (hx : U32 x) : low0 (x : Int) = (low0N x : Int) /\ U32 (low0N x) := by
 unfold low0 low0N
 have e : (x : Int) / (8 : Int) = ((x >>> 3 : Nat) : Int) := by
  rw [Nat.shiftRight_eq_div_pow]
  omega
 rw [zbL _ hx, zbL _ hx, e, zce (zaB hx) (zaB hx), zce (zc4 (zaB hx) (zaB hx)) (zfa 3 hx)]
 exact ⟨rfl, zc4 (zc4 (zaB hx) (zaB hx)) (zfa 3 hx)⟩
theorem low1_nat {x : Nat} (hx : U32 x) : low1 (x : Int) = (low1N x : Int) /\ U32 (low1N x) := by
 unfold low1 low1N
 have e : (x : Int) / (1024 : Int) = ((x >>> 10 : Nat) : Int) := by
  rw [Nat.shiftRight_eq_div_pow]
  omega
 rw [zbL _ hx, zbL _ hx, e, zce (zaB hx) (zaB hx), zce (zc4 (zaB hx) (zaB hx)) (zfa 10 hx)]
 exact ⟨rfl, zc4 (zc4 (zaB hx) (zaB hx)) (zfa 10 hx)⟩
theorem big1_nat {x : Nat} (hx : U32 x) : big1 (x : Int) = (big1N x : Int) := by
 unfold big1 big1N
 rw [zbL _ hx, zbL _ hx, zbL _ hx, zce (zaB hx) (zaB hx), zce (zc4 (zaB hx) (zaB hx)) (zaB hx)]
theorem big0_nat {x : Nat} (hx : U32 x) : big0 (x : Int) = (big0N x : Int) := by
 unfold big0 big0N
 rw [zbL _ hx, zbL _ hx, zbL _ hx, zce (zaB hx) (zaB hx), zce (zc4 (zaB hx) (zaB hx)) (zaB hx)]
theorem pick_nat {e f g : Nat} (he : U32 e) (hf : U32 f) (hg : U32 g) : pick (e : Int) f g = (pickN e f g : Int) := by
 unfold pick pickN
 have hn : U32 (4294967295 ^^^ e) := zc4 (by show 4294967295 < 4294967296; omega) he
 rw [not_nat he, zd7 he hf, zd7 hn hg, zeq (zd8 he) (zd8 hn)]
theorem most_nat {a b c : Nat} (ha : U32 a) (hb : U32 b) (hc : U32 c) : most (a : Int) b c = (mostN a b c : Int) := by
 unfold most mostN
 rw [zd7 ha hb, zd7 ha hc, zd7 hb hc, zeq (zd8 ha) (zd8 ha), zeq (or_lt (zd8 ha) (zd8 ha)) (zd8 hb)]
def wI (B : NI) (j : Nat) : Int := sched B (j + 1) j
theorem zct (B : NI) {j : Nat} : ∀ T, j < T -> sched B T j = wI B j
 | 0, h => by omega
 | T + 1, h => by
  by_cases he : j = T
  ·subst he; rfl
  ·show (if j = T then word B (sched B T) T else sched B T j) = _
   rw [if_neg he]
   exact zct B T (by omega)
theorem wI_low (B : NI) {t : Nat} (h : t < 16) : wI B t = four (B (4 * t)) (B (4 * t + 1)) (B (4 * t + 2)) (B (4 * t + 3)) := by
 show (if t = t then word B (sched B t) t else sched B t t) = _
 rw [if_pos rfl, word_low h]
theorem wI_high (B : NI) (t : Nat) : wI B (t + 16) = add32 (add32 (add32 (wI B t) (low0 (wI B (t + 1)))) (wI B (t + 9))) (low1 (wI B (t + 14))) := by
 show (if t + 16 = t + 16 then word B (sched B (t + 16)) (t + 16) else sched B (t + 16) (t + 16)) = _
 rw [if_pos rfl, zeD (by omega), show t + 16 - 16 = t by omega, show t + 16 - 15 = t + 1 by omega, show t + 16 - 7 = t + 9 by omega, show t + 16 - 2 = t + 14 by omega,
  zct B (t + 16) (by omega), zct B (t + 16) (by omega), zct B (t + 16) (by omega), zct B (t + 16) (by omega)]
theorem zbz (a b : Nat) : add32 (a : Int) (b : Int) = (((a + b) % 4294967296 : Nat) : Int) := by
 unfold add32
 omega
theorem m_lt (a : Nat) : U32 (a % 4294967296) := Nat.mod_lt _ (by omega)
theorem add_five (a b c d e : Nat) : add32 (add32 (add32 (add32 (a : Int) b) c) d) e = (((a + b + c + d + e) % 4294967296 : Nat) : Int) := by
 unfold add32
 omega
theorem run_is (B v : NI) (W : Nat -> Nat) (hW : ∀ j, wI B j = (W j : Int) /\ U32 (W j)) : ∀ (n t : Nat) (a b c d e f g h : Nat), t + n = 64 ->
  (zai (wI B) t v 0 = (a : Int) /\ U32 a) -> (zai (wI B) t v 1 = (b : Int) /\ U32 b) -> (zai (wI B) t v 2 = (c : Int) /\ U32 c) -> (zai (wI B) t v 3 = (d : Int) /\ U32 d) ->
  (zai (wI B) t v 4 = (e : Int) /\ U32 e) -> (zai (wI B) t v 5 = (f : Int) /\ U32 f) -> (zai (wI B) t v 6 = (g : Int) /\ U32 g) -> (zai (wI B) t v 7 = (h : Int) /\ U32 h) ->
  ∀ i, i < 8 -> zai (wI B) 64 v i = (((runN (kN.drop t) (W t) (W (t + 1)) (W (t + 2)) (W (t + 3)) (W (t + 4)) (W (t + 5)) (W (t + 6)) (W (t + 7)) (W (t + 8)) (W (t + 9)) (W (t + 10)) (W (t + 11)) (W (t + 12)) (W (t + 13)) (W (t + 14)) (W (t + 15)) a b c d e f g h).getD i 0 : Nat) : Int)
 | 0, t, a, b, c, d, e, f, g, h, ht, h0, h1, h2, h3, h4, h5, h6, h7, i, hi => by
  obtain rfl : t = 64 := by omega
  have hd : kN.drop 64 = [] := by decide
  rw [hd]
  match i, hi with
  | 0, _ => exact h0.1
  | 1, _ => exact h1.1
  | 2, _ => exact h2.1
  | 3, _ => exact h3.1
  | 4, _ => exact h4.1
  | 5, _ => exact h5.1
  | 6, _ => exact h6.1
  | 7, _ => exact h7.1
 | n + 1, t, a, b, c, d, e, f, g, h, ht, h0, h1, h2, h3, h4, h5, h6, h7, i, hi => by
  have hk : kN.drop t = kN.getD t 0 :: kN.drop (t + 1) := by
   have hl : t < kN.length := by
    have : kN.length = 64 := by decide
    omega
   rw [List.drop_eq_getElem_cons hl]
   simp [List.getD, hl]
  have hkS : kS t = (kN.getD t 0 : Int) := by
   have hall : ∀ t, t < 64 -> kS t = (kN.getD t 0 : Int) := by decide
   exact hall t (by omega)
  have hone : one32 (zai (wI B) t v) (kS t) (wI B t) = (((h + big1N e + pickN e f g + kN.getD t 0 + W t) % 4294967296 : Nat) : Int) := by
   unfold one32
   rw [h4.1, h5.1, h6.1, h7.1, big1_nat h4.2, pick_nat h4.2 h5.2 h6.2, hkS, (hW t).1]
   exact add_five _ _ _ _ _
  have htwo : two32 (zai (wI B) t v) = (((big0N a + mostN a b c) % 4294967296 : Nat) : Int) := by
   unfold two32
   rw [h0.1, h1.1, h2.1, big0_nat h0.2, most_nat h0.2 h1.2 h2.2]
   exact zbz _ _
  have r0 : zai (wI B) (t + 1) v 0 = (((h + big1N e + pickN e f g + kN.getD t 0 + W t + (big0N a + mostN a b c)) % 4294967296 : Nat) : Int) := by
   show add32 (one32 (zai (wI B) t v) (kS t) (wI B t)) (two32 (zai (wI B) t v)) = _
   rw [hone, htwo, zbz, <- Nat.add_mod]
  have r4 : zai (wI B) (t + 1) v 4 = (((d + (h + big1N e + pickN e f g + kN.getD t 0 + W t)) % 4294967296 : Nat) : Int) := by
   show add32 (zai (wI B) t v 3) (one32 (zai (wI B) t v) (kS t) (wI B t)) = _
   rw [hone, h3.1, zbz]
   omega
  have w16 : W (t + 16) = (W t + low0N (W (t + 1)) + W (t + 9) + low1N (W (t + 14))) % 4294967296 := by
   have e1 := wI_high B t
   rw [(hW (t + 16)).1, (hW t).1, (hW (t + 1)).1, (hW (t + 9)).1, (hW (t + 14)).1, (low0_nat (hW (t + 1)).2).1, (low1_nat (hW (t + 14)).2).1] at e1
   unfold add32 at e1
   omega
  rw [hk]
  have ih := run_is B v W hW n (t + 1) _ a b c _ e f g (by omega) ⟨r0, m_lt _⟩ ⟨h0.1, h0.2⟩ ⟨h1.1, h1.2⟩ ⟨h2.1, h2.2⟩ ⟨r4, m_lt _⟩ ⟨h4.1, h4.2⟩ ⟨h5.1, h5.2⟩ ⟨h6.1, h6.2⟩ i hi
  rw [ih]
  show _ = (((runN (kN.drop (t + 1)) (W (t + 1)) (W (t + 2)) (W (t + 3)) (W (t + 4)) (W (t + 5)) (W (t + 6)) (W (t + 7)) (W (t + 8)) (W (t + 9)) (W (t + 10)) (W (t + 11)) (W (t + 12)) (W (t + 13)) (W (t + 14)) (W (t + 15)) ((W t + low0N (W (t + 1)) + W (t + 9) + low1N (W (t + 14))) % 4294967296) _ a b c _ e f g).getD i 0 : Nat) : Int)
  rw [<- w16]
def fourN (a b c d : Nat) : Nat := ((a * 16777216 ||| b * 65536) ||| c * 256) ||| d
theorem four_nat {a b c d : Nat} (ha : a <= 255) (hb : b <= 255) (hc : c <= 255) (hd : d <= 255) : four (a : Int) b c d = (fourN a b c d : Int) /\ U32 (fourN a b c d) := by
 have h1 : a * 16777216 < 4294967296 := Nat.lt_of_le_of_lt (Nat.mul_le_mul_right _ ha) (by decide)
 have h2 : b * 65536 < 4294967296 := Nat.lt_of_le_of_lt (Nat.mul_le_mul_right _ hb) (by decide)
 have h3 : c * 256 < 4294967296 := Nat.lt_of_le_of_lt (Nat.mul_le_mul_right _ hc) (by decide)
 have h4 : d < 4294967296 := by omega
 have e1 : (a : Int) * 16777216 = ((a * 16777216 : Nat) : Int) := by omega
 have e2 : (b : Int) * 65536 = ((b * 65536 : Nat) : Int) := by omega
 have e3 : (c : Int) * 256 = ((c * 256 : Nat) : Int) := by omega
 unfold four fourN
 rw [e1, e2, e3, zeq h1 h2, zeq (or_lt h1 h2) h3, zeq (or_lt (or_lt h1 h2) h3) h4]
 exact ⟨rfl, or_lt (or_lt (or_lt h1 h2) h3) h4⟩
theorem wI_bd (B : NI) (j : Nat) : 0 <= wI B j /\ wI B j < 4294967296 := by
 by_cases h : j < 16
 ·rw [wI_low B h]
  unfold four or32
  have h1 := bits_lo_u32 .or (bits .or .u32 (bits .or .u32 (B (4 * j) * 16777216) (B (4 * j + 1) * 65536)) (B (4 * j + 2) * 256)) (B (4 * j + 3))
  have h2 := bits_hi_u32 .or (bits .or .u32 (bits .or .u32 (B (4 * j) * 16777216) (B (4 * j + 1) * 65536)) (B (4 * j + 2) * 256)) (B (4 * j + 3))
  omega
 ·obtain ⟨t, rfl⟩ : ∃ t, j = t + 16 := ⟨j - 16, by omega⟩
  rw [wI_high]
  unfold add32
  omega
def wordN (bs : Nat -> Nat) (c j : Nat) : Nat := fourN (bs (64 * c + 4 * j)) (bs (64 * c + 4 * j + 1)) (bs (64 * c + 4 * j + 2)) (bs (64 * c + 4 * j + 3))
def pieceN (bs : Nat -> Nat) (c : Nat) : List Nat -> List Nat
 | [a, b, cc, d, e, f, g, h] => List.zipWith (fun x y => (x + y) % 4294967296) [a, b, cc, d, e, f, g, h]
   (runN kN (wordN bs c 0) (wordN bs c 1) (wordN bs c 2) (wordN bs c 3) (wordN bs c 4) (wordN bs c 5) (wordN bs c 6) (wordN bs c 7) (wordN bs c 8) (wordN bs c 9) (wordN bs c 10) (wordN bs c 11) (wordN bs c 12) (wordN bs c 13) (wordN bs c 14) (wordN bs c 15) a b cc d e f g h)
 | _ => []
def stN (bs : Nat -> Nat) : Nat -> List Nat
 | 0 => hList.map Int.toNat
 | c + 1 => pieceN bs c (stN bs c)
theorem runN_len : ∀ (ks : List Nat) (w0 w1 w2 w3 w4 w5 w6 w7 w8 w9 w10 w11 w12 w13 w14 w15 a b c d e f g h : Nat), (runN ks w0 w1 w2 w3 w4 w5 w6 w7 w8 w9 w10 w11 w12 w13 w14 w15 a b c d e f g h).length = 8
 | [], _, _, _, _, _, _, _, _, _, _, _, _, _, _, _, _, _, _, _, _, _, _, _, _ => rfl
 | _ :: ks, _, _, _, _, _, _, _, _, _, _, _, _, _, _, _, _, _, _, _, _, _, _, _, _ => runN_len ks _ _ _ _ _ _ _ _ _ _ _ _ _ _ _ _ _ _ _ _ _ _ _ _
theorem rounds_eq {W V : NI} : ∀ (T : Nat) (v : NI) (i : Nat), (∀ j, j < T -> W j = V j) -> zai W T v i = zai V T v i
 | 0, _, _, _ => rfl
 | T + 1, v, i, h => by
  have e : zai W T v = zai V T v := funext fun i => rounds_eq T v i fun j hj => h j (by omega)
  show zcW (zai W T v) (kS T) (W T) i = zcW (zai V T v) (kS T) (V T) i
  rw [e, h T (by omega)]
theorem start_is : ∀ i, i < 8 -> hS i = (((hList.map Int.toNat).getD i 0 : Nat) : Int) /\ (hList.map Int.toNat).getD i 0 < 4294967296 := by decide
theorem state_is (bs : Nat -> Nat) (hb : ∀ i, bs i <= 255) : ∀ c, ∃ a b cc d e f g h : Nat, stN bs c = [a, b, cc, d, e, f, g, h] /\ ∀ i, i < 8 -> state (fun i => (bs i : Int)) c i = (((stN bs c).getD i 0 : Nat) : Int) /\ U32 ((stN bs c).getD i 0)
 | 0 => ⟨_, _, _, _, _, _, _, _, rfl, start_is⟩
 | c + 1 => by
  obtain ⟨a, b, cc, d, e, f, g, h, hs, hst⟩ := state_is bs hb c
  have s0 := hst 0 (by omega)
  have s1 := hst 1 (by omega)
  have s2 := hst 2 (by omega)
  have s3 := hst 3 (by omega)
  have s4 := hst 4 (by omega)
  have s5 := hst 5 (by omega)
  have s6 := hst 6 (by omega)
  have s7 := hst 7 (by omega)
  rw [hs] at s0 s1 s2 s3 s4 s5 s6 s7
  have hW : ∀ j, wI (fun j => ((bs (64 * c + j) : Nat) : Int)) j = ((wI (fun j => ((bs (64 * c + j) : Nat) : Int)) j).toNat : Int) /\ U32 (wI (fun j => ((bs (64 * c + j) : Nat) : Int)) j).toNat := fun j => by
   have := wI_bd (fun j => ((bs (64 * c + j) : Nat) : Int)) j
   exact ⟨by omega, by show _ < _; omega⟩
  have hw : ∀ j, j < 16 -> (wI (fun j => ((bs (64 * c + j) : Nat) : Int)) j).toNat = wordN bs c j := fun j hj => by
   rw [wI_low _ hj, (four_nat (hb _) (hb _) (hb _) (hb _)).1, Int.toNat_natCast]
   rfl
  have run := run_is (fun j => ((bs (64 * c + j) : Nat) : Int)) (state (fun i => (bs i : Int)) c) _ hW 64 0 a b cc d e f g h rfl s0 s1 s2 s3 s4 s5 s6 s7
  rw [hw 0 (by omega), hw 1 (by omega), hw 2 (by omega), hw 3 (by omega), hw 4 (by omega), hw 5 (by omega), hw 6 (by omega), hw 7 (by omega), hw 8 (by omega), hw 9 (by omega), hw 10 (by omega), hw 11 (by omega), hw 12 (by omega), hw 13 (by omega), hw 14 (by omega), hw 15 (by omega)] at run
  have e1 : stN bs (c + 1) = List.zipWith (fun x y => (x + y) % 4294967296) [a, b, cc, d, e, f, g, h]
    (runN kN (wordN bs c 0) (wordN bs c 1) (wordN bs c 2) (wordN bs c 3) (wordN bs c 4) (wordN bs c 5) (wordN bs c 6) (wordN bs c 7) (wordN bs c 8) (wordN bs c 9) (wordN bs c 10) (wordN bs c 11) (wordN bs c 12) (wordN bs c 13) (wordN bs c 14) (wordN bs c 15) a b cc d e f g h) := by
   show pieceN bs c (stN bs c) = _
   rw [hs]
   rfl
  obtain ⟨r, hr⟩ : ∃ r, r = runN kN (wordN bs c 0) (wordN bs c 1) (wordN bs c 2) (wordN bs c 3) (wordN bs c 4) (wordN bs c 5) (wordN bs c 6) (wordN bs c 7) (wordN bs c 8) (wordN bs c 9) (wordN bs c 10) (wordN bs c 11) (wordN bs c 12) (wordN bs c 13) (wordN bs c 14) (wordN bs c 15) a b cc d e f g h := ⟨_, rfl⟩
  have hl : r.length = 8 := by rw [hr]; exact runN_len _ _ _ _ _ _ _ _ _ _ _ _ _ _ _ _ _ _ _ _ _ _ _ _ _
  rw [<- hr] at e1
  have hrun : ∀ i, i < 8 -> zai (sched (fun j => ((bs (64 * c + j) : Nat) : Int)) 64) 64 (state (fun i => (bs i : Int)) c) i = ((r.getD i 0 : Nat) : Int) := fun i hi => by
   rw [rounds_eq 64 _ i (fun j hj => zct _ 64 hj), run i hi, hr]
   rfl
  match r, hl with
  | [r0, r1, r2, r3, r4, r5, r6, r7], _ =>
   refine ⟨_, _, _, _, _, _, _, _, e1, fun i hi => ?_⟩
   rw [e1]
   have key : ∀ i, i < 8 -> state (fun i => (bs i : Int)) (c + 1) i = add32 (state (fun i => (bs i : Int)) c i) ((([r0, r1, r2, r3, r4, r5, r6, r7] : List Nat).getD i 0 : Nat) : Int) := fun i hi => by
    rw [<- hrun i hi]
    rfl
   rw [key i hi]
   match i, hi with
   | 0, _ => exact ⟨by rw [s0.1]; exact zbz _ _, m_lt _⟩
   | 1, _ => exact ⟨by rw [s1.1]; exact zbz _ _, m_lt _⟩
   | 2, _ => exact ⟨by rw [s2.1]; exact zbz _ _, m_lt _⟩
   | 3, _ => exact ⟨by rw [s3.1]; exact zbz _ _, m_lt _⟩
   | 4, _ => exact ⟨by rw [s4.1]; exact zbz _ _, m_lt _⟩
   | 5, _ => exact ⟨by rw [s5.1]; exact zbz _ _, m_lt _⟩
   | 6, _ => exact ⟨by rw [s6.1]; exact zbz _ _, m_lt _⟩
   | 7, _ => exact ⟨by rw [s7.1]; exact zbz _ _, m_lt _⟩
def shaN (xs : List Int) : List Int := outL (fun i => (((stN (fun i => ((padL xs).getD i 0).toNat) (za3 xs.length)).getD i 0 : Nat) : Int)) 8
theorem outL_eq {h h' : NI} : ∀ n, (∀ i, i < n -> h i = h' i) -> outL h n = outL h' n
 | 0, _ => rfl
 | n + 1, e => by
  show outL h n ++ zap (h n) 4 = outL h' n ++ zap (h' n) 4
  rw [outL_eq n fun i hi => e i (by omega), e n (by omega)]
theorem sum_is (xs : List Int) (h : Bts xs) : sumL xs = shaN xs := by
 have hb := fun i => zco (pad_bd h) i
 have e : (fun i => (padL xs).getD i 0) = fun i => ((((padL xs).getD i 0).toNat : Nat) : Int) := funext fun i => by
  have := hb i
  omega
 unfold sumL shaN
 rw [e]
 refine outL_eq 8 fun i hi => ?_
 obtain ⟨_, _, _, _, _, _, _, _, _, hst⟩ := state_is (fun i => ((padL xs).getD i 0).toNat) (fun i => by have := hb i; omega) (za3 xs.length)
 exact (hst i hi).1
end
section
open Go.RowKit
def accG (P Q G H : Int) (label : List Int) (y : Int) (l : Nat) (C : NN) (no : Nat) (O : NN) (na : Nat) (A : NI) (nb : Nat) (B : NI) (np : Nat) (Pp : NI) (nk : Nat) (K : NI) (nz : Nat) (Xz : NI) : Bool :=
 fitB l no na nb np && accS P Q G H label y l C O A B Pp nk K nz Xz (chX label Q (knwS P Q G H y l C l O) l A) (chYZ 121 label Q (knwS P Q G H y l C l O) l A B) (chYZ 122 label Q (knwS P Q G H y l C l O) l A B)
theorem zd4 (P Q G H : Int) (a : OA) (m cap : Nat) (label : List Int) (y : Int) (bi : OA) (l ci : Nat) (C : NN) (bo : OA) (no co : Nat) (O : NN) (ba : OA) (na ca : Nat) (A : NI) (bb : OA) (nb cb : Nat) (B : NI) (bp : OA) (np cp : Nat) (Pp : NI) (bk : OA) (nk ck : Nat) (K : NI) (bz : OA) (nz cz : Nat) (Xz : NI) (w : World) (h4 : Four P Q G H) (hr : Righ P Q G) (hy : U64 y) (hlb : Bts label) (hll : label.length <= 1000) (ml : l <= 9223372036854775807) (hca : na <= ca /\ ca <= 9223372036854775807) (hcb : nb <= cb /\ cb <= 9223372036854775807) (mk : nk <= 80) (hC : BoxsIn w bi l C) (hO : BoxsIn w bo no O) (hA : FacsIn w ba na A) (hB : FacsIn w bb nb B) (hP : FacsIn w bp np Pp) (hK : FacsIn w bk nk K) (hX : FacsIn w bz nz Xz) :
  Calls prog 34 #[gv P Q G H a m cap, .string (strOfNums label), .int .u64 y, .slice bi l ci, .slice bo no co, .agg #[.slice ba na ca, .slice bb nb cb, .slice bp np cp, .slice bk nk ck, .slice bz nz cz]] w (Ret w (.bool (accG P Q G H label y l C no O na A nb B np Pp nk K nz Xz))) := by
 unfold accG
 cases hf : fitB l no na nb np with
 | false =>
  rw [Bool.false_and]
  exact sacc_no P Q G H a m cap label y bi l ci bo no co ba na ca bb nb cb bp np cp bk nk ck bz nz cz w ml hf
 | true =>
  rw [Bool.true_and]
  obtain ⟨⟨h1, h8⟩, e1, e2, e3, e4⟩ := zcB.1 hf
  subst e1 e2 e3 e4
  exact lacc_any P Q G H a m cap label y bi ci C bo co O ba ca A bb cb B bp cp Pp bk nk ck K bz nz cz Xz _ _ _ _ w h1 h8 h4 hr hy hlb hll hca hcb mk hC hO hA hB hP hK hX rfl rfl rfl
theorem Mix8.accG {P Q G H y : Int} {n : Nat} {C : NN} {O : NI} {Rh : NN} {R S T : NI} (m : Mix8 P Q G H y n C O Rh R S T) (label : List Int) {D : NI} (hD : ∀ k, k < 7 * n + 3 -> 0 <= D k) :
  accG P Q G H label y n C n (mixC P Q G y C O Rh) n (aF P Q G H O R) n (mxB P Q G H label y n C O Rh R S) n (mxP P Q G H label y n C O Rh R S T) (4 * n + 6) (mxK P Q G H label y n C O Rh R S T D) (7 * n + 3) (mxZ P Q G H label y n C O Rh R S T D) = true := by
 have uY : U64 (mxC 121 P Q G H label y n C O Rh R S) := by unfold mxC chYZ; exact zas _ _ _ _
 have uZ : U64 (mxC 122 P Q G H label y n C O Rh R S) := by unfold mxC chYZ; exact zas _ _ _ _
 have uH : U64 (mxH P Q G H label y n C O Rh R S T D) := by unfold mxH chI; exact zas _ _ _ _
 unfold Go.Proofs.YtlnmjbbpenhdbaaGreat.accG accS
 rw [Bool.and_eq_true_iff, Bool.and_eq_true_iff]
 exact ⟨zcB.2 ⟨⟨m.n1, m.n8⟩, rfl, rfl, rfl, rfl⟩, m.clm _ uY.1 uZ.1, m.acc _ uY.1 uZ.1 uH.1 hD⟩
theorem zb0 {F G : NI} : ∀ n, (∀ i, i < n -> F i = G i) -> packL F n = packL G n
 | 0, _ => rfl
 | n + 1, h => by
  unfold packL
  rw [zb0 n fun i hi => h i (by omega), h n (by omega)]
theorem chX_congr {label : List Int} {Q : Int} {K : Nat -> List Int} {n : Nat} {A A' : NI} (h : ∀ i, i < n -> A i = A' i) : chX label Q K n A = chX label Q K n A' := by
 unfold chX
 refine zbh fun i hi => ?_
 unfold askS
 split
 ·rfl
 split
 ·rfl
 ·exact zb0 _ h
theorem chYZ_congr {c : Int} {label : List Int} {Q : Int} {K : Nat -> List Int} {n : Nat} {A A' B B' : NI} (h : ∀ i, i < n -> A i = A' i) (k : ∀ i, i < n -> B i = B' i) : chYZ c label Q K n A B = chYZ c label Q K n A' B' := by
 unfold chYZ
 refine zbh fun i hi => ?_
 unfold askS
 split
 ·rfl
 split
 ·rfl
 ·match i - 4 with
  | 0 => exact zb0 _ h
  | _ + 1 => exact zb0 _ k
theorem zch {label : List Int} {S : Nat -> List Int} {n : Nat} {q v : Int} (l : List Int) (e : numL label S n = l) (hb : Bts l) (hq : okM q) (hv : numF (fun i => (shaN l).getD i 0) q 16 = v) : zaj label S n q = v := by
 unfold zaj
 rw [if_pos hq, e, sum_is l hb]
 exact hv
def bx8 : Nat -> Int
 | 0 => 1
 | 1 => 4
 | 2 => 1
 | 3 => 9
 | 4 => 4
 | _ => 16
def rh8 : Nat -> Int
 | 0 => 5
 | 1 => 6
 | _ => 7
def mx8 : Nat -> Int
 | 0 => 1024
 | 1 => 1590
 | 2 => 42
 | 3 => 1936
 | 4 => 672
 | _ => 1583
abbrev awC : Nat -> Nat -> Int := fun _ => bx8
abbrev awR : Nat -> Nat -> Int := fun _ => rh8
abbrev awO : Nat -> Int := fun _ => 0
abbrev awM : Nat -> Nat -> Int := mixC 2027 1013 4 64 awC awO awR
theorem aw_mix : mixB 2027 1013 64 1 awC 1 awO 1 = true := by decide +kernel
theorem aw_drw : drwB 1 1 1 1 10 = true := by decide +kernel
theorem aw_h : inI 2027 1013 9 = true := by decide +kernel
theorem aw_M : ∀ k, k < 6 -> awM 0 k = mx8 k := by decide +kernel
theorem aw_A : aF 2027 1013 4 9 awO (fun _ => 1) 0 = 36 := by decide +kernel
def kn8 : Nat -> List Int := knwS 2027 1013 4 9 64 1 awC 1 awM
def kn9 : Nat -> List Int := knwS 2027 1013 4 9 64 1 awM 1 awM
theorem aw_X : mxX 2027 1013 4 9 [97] 64 1 awC awO awR (fun _ => 1) = 262 := by
 unfold mxX
 rw [chX_congr (A' := fun _ => 36) fun i hi => by rw [show i = 0 by omega]; exact aw_A]
 have e : numL [97] (askS [120] kn8 (one8 (fun _ => 36)) (one8 1)) (1 + 4) = [0, 0, 0, 0, 0, 0, 0, 1, 97, 0, 0, 0, 0, 0, 0, 0, 1, 120, 0, 0, 0, 0, 0, 0, 0, 40, 0, 0, 0, 0, 0, 0, 7, 235, 0, 0, 0, 0, 0, 0, 3, 245, 0, 0, 0, 0, 0, 0, 0, 4, 0, 0, 0, 0, 0, 0, 0, 9, 0, 0, 0, 0, 0, 0, 0, 64, 0, 0, 0, 0, 0, 0, 0, 48, 0, 0, 0, 0, 0, 0, 0, 1, 0, 0, 0, 0, 0, 0, 0, 4, 0, 0, 0, 0, 0, 0, 0, 1, 0, 0, 0, 0, 0, 0, 0, 9, 0, 0, 0, 0, 0, 0, 0, 4, 0, 0, 0, 0, 0, 0, 0, 16, 0, 0, 0, 0, 0, 0, 0, 48, 0, 0, 0, 0, 0, 0, 4, 0, 0, 0, 0, 0, 0, 0, 6, 54, 0, 0, 0, 0, 0, 0, 0, 42, 0, 0, 0, 0, 0, 0, 7, 144, 0, 0, 0, 0, 0, 0, 2, 160, 0, 0, 0, 0, 0, 0, 6, 47, 0, 0, 0, 0, 0, 0, 0, 8, 0, 0, 0, 0, 0, 0, 0, 36] := by decide +kernel
 exact zch _ e (by unfold Bts; decide +kernel) (by decide) (by decide +kernel)
theorem aw_B : mxB 2027 1013 4 9 [97] 64 1 awC awO awR (fun _ => 1) (fun _ => 2) 0 = 1648 := by
 show comI 2027 1013 4 9 (powI (mxX 2027 1013 4 9 [97] 64 1 awC awO awR (fun _ => 1)) (0 + 1) 1013) 2 = 1648
 rw [aw_X]
 decide +kernel
theorem aw_ch (c : Int) (K : Nat -> List Int) : chYZ c [97] 1013 K 1 (aF 2027 1013 4 9 awO (fun _ => 1)) (mxB 2027 1013 4 9 [97] 64 1 awC awO awR (fun _ => 1) (fun _ => 2)) = zaj [97] (askS [c] K (two8f (fun _ => 36) (fun _ => 1648)) (two8f 1 1)) (2 + 4) 1013 :=
 chYZ_congr (fun i hi => by rw [show i = 0 by omega]; exact aw_A) (fun i hi => by rw [show i = 0 by omega]; exact aw_B)
theorem aw_Y : mxC 121 2027 1013 4 9 [97] 64 1 awC awO awR (fun _ => 1) (fun _ => 2) = 936 := by
 refine (aw_ch 121 kn8).trans ?_
 have e : numL [97] (askS [121] kn8 (two8f (fun _ => 36) (fun _ => 1648)) (two8f 1 1)) (2 + 4) = [0, 0, 0, 0, 0, 0, 0, 1, 97, 0, 0, 0, 0, 0, 0, 0, 1, 121, 0, 0, 0, 0, 0, 0, 0, 40, 0, 0, 0, 0, 0, 0, 7, 235, 0, 0, 0, 0, 0, 0, 3, 245, 0, 0, 0, 0, 0, 0, 0, 4, 0, 0, 0, 0, 0, 0, 0, 9, 0, 0, 0, 0, 0, 0, 0, 64, 0, 0, 0, 0, 0, 0, 0, 48, 0, 0, 0, 0, 0, 0, 0, 1, 0, 0, 0, 0, 0, 0, 0, 4, 0, 0, 0, 0, 0, 0, 0, 1, 0, 0, 0, 0, 0, 0, 0, 9, 0, 0, 0, 0, 0, 0, 0, 4, 0, 0, 0, 0, 0, 0, 0, 16, 0, 0, 0, 0, 0, 0, 0, 48, 0, 0, 0, 0, 0, 0, 4, 0, 0, 0, 0, 0, 0, 0, 6, 54, 0, 0, 0, 0, 0, 0, 0, 42, 0, 0, 0, 0, 0, 0, 7, 144, 0, 0, 0, 0, 0, 0, 2, 160, 0, 0, 0, 0, 0, 0, 6, 47, 0, 0, 0, 0, 0, 0, 0, 8, 0, 0, 0, 0, 0, 0, 0, 36, 0, 0, 0, 0, 0, 0, 0, 8, 0, 0, 0, 0, 0, 0, 6, 112] := by decide +kernel
 exact zch _ e (by unfold Bts; decide +kernel) (by decide) (by decide +kernel)
theorem aw_Z : mxC 122 2027 1013 4 9 [97] 64 1 awC awO awR (fun _ => 1) (fun _ => 2) = 514 := by
 refine (aw_ch 122 kn8).trans ?_
 have e : numL [97] (askS [122] kn8 (two8f (fun _ => 36) (fun _ => 1648)) (two8f 1 1)) (2 + 4) = [0, 0, 0, 0, 0, 0, 0, 1, 97, 0, 0, 0, 0, 0, 0, 0, 1, 122, 0, 0, 0, 0, 0, 0, 0, 40, 0, 0, 0, 0, 0, 0, 7, 235, 0, 0, 0, 0, 0, 0, 3, 245, 0, 0, 0, 0, 0, 0, 0, 4, 0, 0, 0, 0, 0, 0, 0, 9, 0, 0, 0, 0, 0, 0, 0, 64, 0, 0, 0, 0, 0, 0, 0, 48, 0, 0, 0, 0, 0, 0, 0, 1, 0, 0, 0, 0, 0, 0, 0, 4, 0, 0, 0, 0, 0, 0, 0, 1, 0, 0, 0, 0, 0, 0, 0, 9, 0, 0, 0, 0, 0, 0, 0, 4, 0, 0, 0, 0, 0, 0, 0, 16, 0, 0, 0, 0, 0, 0, 0, 48, 0, 0, 0, 0, 0, 0, 4, 0, 0, 0, 0, 0, 0, 0, 6, 54, 0, 0, 0, 0, 0, 0, 0, 42, 0, 0, 0, 0, 0, 0, 7, 144, 0, 0, 0, 0, 0, 0, 2, 160, 0, 0, 0, 0, 0, 0, 6, 47, 0, 0, 0, 0, 0, 0, 0, 8, 0, 0, 0, 0, 0, 0, 0, 36, 0, 0, 0, 0, 0, 0, 0, 8, 0, 0, 0, 0, 0, 0, 6, 112] := by decide +kernel
 exact zch _ e (by unfold Bts; decide +kernel) (by decide) (by decide +kernel)
theorem aw_Y2 : chYZ 121 [97] 1013 kn9 1 (aF 2027 1013 4 9 awO (fun _ => 1)) (mxB 2027 1013 4 9 [97] 64 1 awC awO awR (fun _ => 1) (fun _ => 2)) = 511 := by
 refine (aw_ch 121 kn9).trans ?_
 have e : numL [97] (askS [121] kn9 (two8f (fun _ => 36) (fun _ => 1648)) (two8f 1 1)) (2 + 4) = [0, 0, 0, 0, 0, 0, 0, 1, 97, 0, 0, 0, 0, 0, 0, 0, 1, 121, 0, 0, 0, 0, 0, 0, 0, 40, 0, 0, 0, 0, 0, 0, 7, 235, 0, 0, 0, 0, 0, 0, 3, 245, 0, 0, 0, 0, 0, 0, 0, 4, 0, 0, 0, 0, 0, 0, 0, 9, 0, 0, 0, 0, 0, 0, 0, 64, 0, 0, 0, 0, 0, 0, 0, 48, 0, 0, 0, 0, 0, 0, 4, 0, 0, 0, 0, 0, 0, 0, 6, 54, 0, 0, 0, 0, 0, 0, 0, 42, 0, 0, 0, 0, 0, 0, 7, 144, 0, 0, 0, 0, 0, 0, 2, 160, 0, 0, 0, 0, 0, 0, 6, 47, 0, 0, 0, 0, 0, 0, 0, 48, 0, 0, 0, 0, 0, 0, 4, 0, 0, 0, 0, 0, 0, 0, 6, 54, 0, 0, 0, 0, 0, 0, 0, 42, 0, 0, 0, 0, 0, 0, 7, 144, 0, 0, 0, 0, 0, 0, 2, 160, 0, 0, 0, 0, 0, 0, 6, 47, 0, 0, 0, 0, 0, 0, 0, 8, 0, 0, 0, 0, 0, 0, 0, 36, 0, 0, 0, 0, 0, 0, 0, 8, 0, 0, 0, 0, 0, 0, 6, 112] := by decide +kernel
 exact zch _ e (by unfold Bts; decide +kernel) (by decide) (by decide +kernel)
theorem aw_Z2 : chYZ 122 [97] 1013 kn9 1 (aF 2027 1013 4 9 awO (fun _ => 1)) (mxB 2027 1013 4 9 [97] 64 1 awC awO awR (fun _ => 1) (fun _ => 2)) = 620 := by
 refine (aw_ch 122 kn9).trans ?_
 have e : numL [97] (askS [122] kn9 (two8f (fun _ => 36) (fun _ => 1648)) (two8f 1 1)) (2 + 4) = [0, 0, 0, 0, 0, 0, 0, 1, 97, 0, 0, 0, 0, 0, 0, 0, 1, 122, 0, 0, 0, 0, 0, 0, 0, 40, 0, 0, 0, 0, 0, 0, 7, 235, 0, 0, 0, 0, 0, 0, 3, 245, 0, 0, 0, 0, 0, 0, 0, 4, 0, 0, 0, 0, 0, 0, 0, 9, 0, 0, 0, 0, 0, 0, 0, 64, 0, 0, 0, 0, 0, 0, 0, 48, 0, 0, 0, 0, 0, 0, 4, 0, 0, 0, 0, 0, 0, 0, 6, 54, 0, 0, 0, 0, 0, 0, 0, 42, 0, 0, 0, 0, 0, 0, 7, 144, 0, 0, 0, 0, 0, 0, 2, 160, 0, 0, 0, 0, 0, 0, 6, 47, 0, 0, 0, 0, 0, 0, 0, 48, 0, 0, 0, 0, 0, 0, 4, 0, 0, 0, 0, 0, 0, 0, 6, 54, 0, 0, 0, 0, 0, 0, 0, 42, 0, 0, 0, 0, 0, 0, 7, 144, 0, 0, 0, 0, 0, 0, 2, 160, 0, 0, 0, 0, 0, 0, 6, 47, 0, 0, 0, 0, 0, 0, 0, 8, 0, 0, 0, 0, 0, 0, 0, 36, 0, 0, 0, 0, 0, 0, 0, 8, 0, 0, 0, 0, 0, 0, 6, 112] := by decide +kernel
 exact zch _ e (by unfold Bts; decide +kernel) (by decide) (by decide +kernel)
theorem aw_P : mxP 2027 1013 4 9 [97] 64 1 awC awO awR (fun _ => 1) (fun _ => 2) (fun _ => 3) 0 = 182 := by
 show bigI 2027 1013 4 (aF 2027 1013 4 9 awO (fun _ => 1) 0) (mxB 2027 1013 4 9 [97] 64 1 awC awO awR (fun _ => 1) (fun _ => 2) 0) (mxC 121 2027 1013 4 9 [97] 64 1 awC awO awR (fun _ => 1) (fun _ => 2)) (mxC 122 2027 1013 4 9 [97] 64 1 awC awO awR (fun _ => 1) (fun _ => 2)) = 182
 rw [aw_A, aw_B, aw_Y, aw_Z]
 decide +kernel
theorem aw_no (nk : Nat) (K : NI) (nz : Nat) (Xz : NI) : accG 2027 1013 4 9 [97] 64 1 awM 1 awM 1 (aF 2027 1013 4 9 awO (fun _ => 1)) 1 (mxB 2027 1013 4 9 [97] 64 1 awC awO awR (fun _ => 1) (fun _ => 2)) 1 (mxP 2027 1013 4 9 [97] 64 1 awC awO awR (fun _ => 1) (fun _ => 2) (fun _ => 3)) nk K nz Xz = false := by
 have hc : clmB 2027 1013 4 64 1 awM 1 awM 1 (aF 2027 1013 4 9 awO (fun _ => 1)) 1 (mxB 2027 1013 4 9 [97] 64 1 awC awO awR (fun _ => 1) (fun _ => 2)) 1 (mxP 2027 1013 4 9 [97] 64 1 awC awO awR (fun _ => 1) (fun _ => 2) (fun _ => 3)) 511 620 = false := by
  unfold clmB
  rw [aw_P, aw_A, aw_B, show decide ((182 : Int) = bigI 2027 1013 4 36 1648 511 620) = false from by decide +kernel]
  simp
 unfold accG accS
 rw [show chYZ 121 [97] 1013 (knwS 2027 1013 4 9 64 1 awM 1 awM) 1 _ _ = 511 from aw_Y2, show chYZ 122 [97] 1013 (knwS 2027 1013 4 9 64 1 awM 1 awM) 1 _ _ = 620 from aw_Z2, hc]
 simp
abbrev boxV : Value := .agg #[.int .u64 1, .int .u64 4, .int .u64 1, .int .u64 9, .int .u64 4, .int .u64 16]
abbrev boxA : Array Value := #[.int .u64 1, .int .u64 4, .int .u64 1, .int .u64 9, .int .u64 4, .int .u64 16]
theorem info_box : (prog.info? 74).map (·.size) = some 6 := by kernel_rfl
theorem box8_any (w : World) : Calls prog 47 #[] w (Ret w boxV) := by
 go_enter func47, ntmps47
 go_wp2_with fail
 exact bodyPost_ret (results_cell_row rfl _ _ _ _ _ (0, 0) _ rfl (heap_alloc_last _ _) U74 rfl info_box) rfl ⟨rfl, (Old.refl _).alloc _⟩
def rowK {S : TypeId} (n : Nat) (c : Array Value) (T : TypeId) (hT : S ≠ T) : Ent2 (OldT S) := .u (fun v w => ∃ b, v = .slice (some ⟨b, 0, none⟩) n n /\ w.heap[b]? = some (.cells c T (0, 0))) fun _ _ _ ⟨b, e, h⟩ ho => ⟨b, e, ho.row hT h⟩
def shP (base n : Nat) (M : NN) (A B Pp : NI) (nt : Nat) (K : NI) (nz : Nat) (Z : NI) : Ent2 (OldT 57) := .u (fun v w => ∃ bm cm ba ca bb cb bp cp bk ck bz cz, v = .tuple #[.slice bm n cm, .agg #[.slice ba n ca, .slice bb n cb, .slice bp n cp, .slice bk nt ck, .slice bz nz cz], .bool true] /\ BoxF w bm n M /\ Nums w base (.slice ba n ca) n A /\ Nums w base (.slice bb n cb) n B /\ Nums w base (.slice bp n cp) n Pp /\ Nums w base (.slice bk nt ck) nt K /\ Nums w base (.slice bz nz cz) nz Z)
 fun _ _ _ ⟨bm, cm, ba, ca, bb, cb, bp, cp, bk, ck, bz, cz, e, h, h1, h2, h3, h4, h5⟩ ho => ⟨bm, cm, ba, ca, bb, cb, bp, cp, bk, ck, bz, cz, e, h.oldT (by decide) ho, h1.oldT (by decide) ho, h2.oldT (by decide) ho, h3.oldT (by decide) ho, h4.oldT (by decide) ho, h5.oldT (by decide) ho⟩
def shM (n : Nat) (M : NN) : Ent2 (OldT 57) := .u (fun v w => ∃ bm cm, v = .slice bm n cm /\ BoxF w bm n M) fun _ _ _ ⟨bm, cm, e, h⟩ ho => ⟨bm, cm, e, h.oldT (by decide) ho⟩
def shA (base n : Nat) (A B Pp : NI) (nt : Nat) (K : NI) (nz : Nat) (Z : NI) : Ent2 (OldT 57) := .u (fun v w => ∃ ba ca bb cb bp cp bk ck bz cz, v = .agg #[.slice ba n ca, .slice bb n cb, .slice bp n cp, .slice bk nt ck, .slice bz nz cz] /\ Nums w base (.slice ba n ca) n A /\ Nums w base (.slice bb n cb) n B /\ Nums w base (.slice bp n cp) n Pp /\ Nums w base (.slice bk nt ck) nt K /\ Nums w base (.slice bz nz cz) nz Z)
 fun _ _ _ ⟨ba, ca, bb, cb, bp, cp, bk, ck, bz, cz, e, h1, h2, h3, h4, h5⟩ ho => ⟨ba, ca, bb, cb, bp, cp, bk, ck, bz, cz, e, h1.oldT (by decide) ho, h2.oldT (by decide) ho, h3.oldT (by decide) ho, h4.oldT (by decide) ho, h5.oldT (by decide) ho⟩
theorem aw_u64 : (∀ k, k < 6 -> U64 (bx8 k)) /\ (∀ k, k < 3 -> U64 (rh8 k)) := by unfold U64; decide
theorem boxs_one {w : World} {b : Nat} (h : w.heap[b]? = some (.cells boxA 74 (0, 0))) : BoxsIn w (some ⟨b, 0, none⟩) 1 awC := Or.inr ⟨b, 0, rfl, zag h, fun j hj k hk => ⟨by
 have : j = 0 := by omega
 subst this
 rw [show 0 + 0 * 6 + k = k by omega, cell_of_row _ _ k _ _ (0, 0) h]
 match k, hk with
 | 0, _ => rfl
 | 1, _ => rfl
 | 2, _ => rfl
 | 3, _ => rfl
 | 4, _ => rfl
 | 5, _ => rfl, aw_u64.1 k hk⟩⟩
theorem ints_one {w : World} {b : Nat} (h : w.heap[b]? = some (.cells #[.int .i64 0] 3 (0, 0))) : IntsIn w (some ⟨b, 0, none⟩) 1 awO := Or.inr ⟨b, 0, rfl, zag h, fun j hj => by
 have : j = 0 := by omega
 subst this
 exact ⟨(Y0 h).trans rfl, by decide, by decide⟩⟩
theorem rho_one {w : World} {b : Nat} (h : w.heap[b]? = some (.cells #[.int .u64 5, .int .u64 6, .int .u64 7] 63 (0, 0))) : RhoIn w (some ⟨b, 0, none⟩) 1 awR := Or.inr ⟨b, 0, rfl, zag h, fun j hj k hk => ⟨by
 have : j = 0 := by omega
 subst this
 rw [show 0 + 0 * 3 + k = k by omega, cell_of_row _ _ k _ _ (0, 0) h]
 match k, hk with
 | 0, _ => rfl
 | 1, _ => rfl
 | 2, _ => rfl, aw_u64.2 k hk⟩⟩
theorem num_one {w : World} {b : Nat} {x : Int} (hx : U64 x) (h : w.heap[b]? = some (.cells #[.int .u64 x] 22 (0, 0))) : FacsIn w (some ⟨b, 0, none⟩) 1 (fun _ => x) := Or.inr ⟨b, 0, rfl, zag h, fun j hj => by
 have : j = 0 := by omega
 subst this
 exact ⟨(Y0 h).trans rfl, hx⟩⟩
theorem num_ten {w : World} {b : Nat} (h : w.heap[b]? = some (.cells (madeCells #[Value.int .u64 0] 10) 22 (0, 0))) : FacsIn w (some ⟨b, 0, none⟩) 10 (fun _ => 0) := Or.inr ⟨b, 0, rfl, zag h, fun j hj => by
 refine ⟨?_, (show U64 0 from ⟨by decide, by decide⟩)⟩
 rw [Nat.zero_add, cell_of_row _ _ j _ _ (0, 0) h]
 simp [madeCells, hj, Nat.mod_one]⟩
theorem aw_mx : Mix8 2027 1013 4 9 64 1 awC awO awR (fun _ => 1) (fun _ => 2) (fun _ => 3) := ⟨zdq, aw_h, by decide +kernel, by decide, by decide, zaA.1 (by decide +kernel), (zaM.1 (show batB 2027 1013 1 awC = true by decide +kernel)).2, fun _ _ => (show (0 : Int) <= 1 by decide), fun _ _ => (show (0 : Int) <= 2 by decide), fun _ _ => (show (0 : Int) <= 3 by decide), fun _ _ k hk => (aw_u64.2 k hk).1⟩
theorem zbM {P : Program} (w : World) (b off : Nat) (ty : TypeId) (cs : Array Value) (d : TypeDesc) (hc : ∀ j v, cs[j]? = some v -> w.cell? ⟨b, off + j, none⟩ = some v) (hu : P.underlying ty = some d) (hd : aggD d = true) (hi : (P.info? ty).map (·.size) = some cs.size) :
  (loadVar ty ⟨b, off, none⟩).run P w = .ok (.agg cs) w := by
 have hl : (loadCells ⟨b, off, none⟩ cs.toList.length).run P w = .ok cs.toList.toArray w :=
  run_loadCells_list (P := P) w ⟨b, off, none⟩ cs.toList (fun j v hv => by
   have hadd : (⟨b, off, none⟩ : Addr).add j = ⟨b, off + j, none⟩ := by unfold Addr.add; split <;> simp_all
   rw [hadd]
   exact hc j v (by simpa using hv))
 obtain ⟨i, hq, hs⟩ := Option.map_eq_some_iff.1 hi
 have hagg : (isAgg ty).run P w = .ok true w := by
  unfold isAgg
  rw [Sem.run_bind, run_underlying hu w]
  cases d <;> simp_all [aggD]
 simp only [Array.length_toList, Array.toArray_toList] at hl
 simp [loadVar, Sem.run_bind, hagg, sizeOf, typeInfo, hq, hs, hl]
theorem stlv {P : Program} {ops : List Oper} {L0 : List Value} {E : List Ent} {R : World -> Prop} {dst : Option Tmp} {ty : TypeId} {pos : String} {after : Array Edge} {guard : Option (Nat × Bool)} {T : TypeId} {x : Operand} {p : Addr} {v : Value} (hc : ∀ wx, R wx -> (loadVar T p).run P wx = .ok v wx) (hg : zao E ⟨dst, .load T x, ty, pos, after, guard⟩ = some true := by rfl) (hx : ∀ t, Act.eval ⟨(fill ops E t 0 L0).toArray, []⟩ x = .pointer (some p) := by intro _; kernel_rfl) : StepT P ops L0 E R ⟨dst, .load T x, ty, pos, after, guard⟩ (.k v) :=
 stw hg fun t wx hR => by simp only [execOp, hx t, Instr.loadAt, Instr.sureAddr, Sem.run_bind, Sem.run_pure, Result.andThen_ok, hc wx hR]
theorem awake8_any (w : World) : Calls prog 12 #[] w (Ret w (.bool true)) := by
 have hmk : ∀ wx : World, (Instr.makeSlice 29 (.int .i64 10) (.int .i64 10)).run prog wx = .ok (.slice (some ⟨wx.heap.size, 0, none⟩) 10 10) (wx.alloc (.cells (madeCells #[Value.int .u64 0] 10) 22)) := fun wx => zaP 10 (by omega) wx
 go_enter func12, ntmps12
 go_upto_region 2 with (go_at_call 46; refine (small4_any _).mono ?_; rintro e w1 ⟨a, FA, rfl, hrow, ho1⟩)
 have HZ := lain1 w1 (gc 2027 1013 4 9 a 5 5) 25
 have HW := hid ho1
 have HG0 := fun w' ho => (HZ.then (W' := w') ho).row 0 (by simp)
 have HOw := hid (HW.out.trans HZ.old)
 clear hrow ho1 HZ HW
 generalize w1.alloc (.cells (gc 2027 1013 4 9 a 5 5) 25) = W at *
 obtain ⟨gb, hgb⟩ : ∃ gb, gb = w1.heap.size := ⟨_, rfl⟩
 have HG : Hid (∀ wx, Old W wx -> wx.heap[gb]? = some (.cells (gc 2027 1013 4 9 a 5 5) 25 (0, 0))) := by rw [hgb]; exact HG0
 rw [<- hgb]
 clear hgb HG0
 obtain ⟨s, hs⟩ : ∃ s, s = W.heap.size := ⟨_, rfl⟩
 have HD : Hid (∀ wx, Old ((((((W.alloc (.cells #[.int .u64 5, .int .u64 6, .int .u64 7] 63)).alloc (.cells #[.int .u64 1] 22)).alloc (.cells #[.int .u64 2] 22)).alloc (.cells #[.int .u64 3] 22)).alloc (.cells (madeCells #[Value.int .u64 0] 10) 22)).alloc (.cells (dvc (some ⟨s, 0, none⟩) 1 1 (some ⟨s + 1, 0, none⟩) 1 1 (some ⟨s + 1 + 1, 0, none⟩) 1 1 (some ⟨s + 1 + 1 + 1, 0, none⟩) 1 1 (some ⟨s + 1 + 1 + 1 + 1, 0, none⟩) 10 10) 31)) wx -> wx.heap[s]? = some (.cells #[.int .u64 5, .int .u64 6, .int .u64 7] 63 (0, 0)) /\ wx.heap[s + 1]? = some (.cells #[.int .u64 1] 22 (0, 0)) /\ wx.heap[s + 1 + 1]? = some (.cells #[.int .u64 2] 22 (0, 0)) /\ wx.heap[s + 1 + 1 + 1]? = some (.cells #[.int .u64 3] 22 (0, 0)) /\ wx.heap[s + 1 + 1 + 1 + 1]? = some (.cells (madeCells #[Value.int .u64 0] 10) 22 (0, 0)) /\ wx.heap[s + 1 + 1 + 1 + 1 + 1]? = some (.cells (dvc (some ⟨s, 0, none⟩) 1 1 (some ⟨s + 1, 0, none⟩) 1 1 (some ⟨s + 1 + 1, 0, none⟩) 1 1 (some ⟨s + 1 + 1 + 1, 0, none⟩) 1 1 (some ⟨s + 1 + 1 + 1 + 1, 0, none⟩) 10 10) 31 (0, 0))) := fun wx ho => by
  subst hs
  have L := ((((((Lain.nil W).add (by simp) #[.int .u64 5, .int .u64 6, .int .u64 7] 63).add (by simp) #[.int .u64 1] 22).add (by simp) #[.int .u64 2] 22).add (by simp) #[.int .u64 3] 22).add (by simp) (madeCells #[Value.int .u64 0] 10) 22).add (by simp) (dvc (some ⟨W.heap.size, 0, none⟩) 1 1 (some ⟨W.heap.size + 1, 0, none⟩) 1 1 (some ⟨W.heap.size + 1 + 1, 0, none⟩) 1 1 (some ⟨W.heap.size + 1 + 1 + 1, 0, none⟩) 1 1 (some ⟨W.heap.size + 1 + 1 + 1 + 1, 0, none⟩) 10 10) 31
  have M := L.then ho
  exact ⟨M.row 0 (by simp), M.row 1 (by simp), M.row 2 (by simp), M.row 3 (by simp), M.row 4 (by simp), M.row 5 (by simp)⟩
 have HOd : Hid (Old W ((((((W.alloc (.cells #[.int .u64 5, .int .u64 6, .int .u64 7] 63)).alloc (.cells #[.int .u64 1] 22)).alloc (.cells #[.int .u64 2] 22)).alloc (.cells #[.int .u64 3] 22)).alloc (.cells (madeCells #[Value.int .u64 0] 10) 22)).alloc (.cells (dvc (some ⟨s, 0, none⟩) 1 1 (some ⟨s + 1, 0, none⟩) 1 1 (some ⟨s + 1 + 1, 0, none⟩) 1 1 (some ⟨s + 1 + 1 + 1, 0, none⟩) 1 1 (some ⟨s + 1 + 1 + 1 + 1, 0, none⟩) 10 10) 31))) := ((((((Old.refl W).alloc _).alloc _).alloc _).alloc _).alloc _).alloc _
 go_upto_region 3 with fail
 rw [<- hs]
 clear hs hmk
 generalize (((((W.alloc (.cells #[.int .u64 5, .int .u64 6, .int .u64 7] 63)).alloc (.cells #[.int .u64 1] 22)).alloc (.cells #[.int .u64 2] 22)).alloc (.cells #[.int .u64 3] 22)).alloc (.cells (madeCells #[Value.int .u64 0] 10) 22)).alloc (.cells (dvc (some ⟨s, 0, none⟩) 1 1 (some ⟨s + 1, 0, none⟩) 1 1 (some ⟨s + 1 + 1, 0, none⟩) 1 1 (some ⟨s + 1 + 1 + 1, 0, none⟩) 1 1 (some ⟨s + 1 + 1 + 1 + 1, 0, none⟩) 10 10) 31) = V at *
 have HGv := hid fun wx (ho : Old V wx) => HG.out wx (HOd.out.trans ho)
 have HDv := hid fun wx (ho : Old V wx) => (HD.out wx ho).2.2.2.2.2
 have HPv : Hid (∀ wx b b2, Old V wx -> wx.heap[b]? = some (.cells boxA 74 (0, 0)) -> wx.heap[b2]? = some (.cells #[.int .i64 0] 3 (0, 0)) -> Calls prog 31 #[gv 2027 1013 4 9 a 5 5, .string ⟨#[97]⟩, .int .u64 64, .slice (some ⟨b, 0, none⟩) 1 1, .slice (some ⟨b2, 0, none⟩) 1 1, dv (some ⟨s, 0, none⟩) 1 1 (some ⟨s + 1, 0, none⟩) 1 1 (some ⟨s + 1 + 1, 0, none⟩) 1 1 (some ⟨s + 1 + 1 + 1, 0, none⟩) 1 1 (some ⟨s + 1 + 1 + 1 + 1, 0, none⟩) 10 10] wx (GivS wx true 1 awM (aF 2027 1013 4 9 awO (fun _ => 1)) (mxB 2027 1013 4 9 [97] 64 1 awC awO awR (fun _ => 1) (fun _ => 2)) (mxP 2027 1013 4 9 [97] 64 1 awC awO awR (fun _ => 1) (fun _ => 2) (fun _ => 3)) 10 (mxK 2027 1013 4 9 [97] 64 1 awC awO awR (fun _ => 1) (fun _ => 2) (fun _ => 3) (fun _ => 0)) 10 (mxZ 2027 1013 4 9 [97] 64 1 awC awO awR (fun _ => 1) (fun _ => 2) (fun _ => 3) (fun _ => 0)))) := fun wx b b2 ho hb hi => by
  obtain ⟨d0, d1, d2, d3, d4, _⟩ := HD.out wx ho
  have h := zdy 2027 1013 4 9 a 5 5 [97] 64 (some ⟨b, 0, none⟩) 1 1 awC (some ⟨b2, 0, none⟩) 1 1 awO (some ⟨s, 0, none⟩) 1 1 awR (some ⟨s + 1, 0, none⟩) 1 1 (fun _ => 1) (some ⟨s + 1 + 1, 0, none⟩) 1 1 (fun _ => 2) (some ⟨s + 1 + 1 + 1, 0, none⟩) 1 1 (fun _ => 3) (some ⟨s + 1 + 1 + 1 + 1, 0, none⟩) 10 10 (fun _ => 0) wx four_sm zdq aw_h ⟨by decide, by decide⟩ (by unfold Bts; decide) (by decide) (by decide) (by decide) (by decide) ⟨by decide, by decide⟩ (by decide) (boxs_one hb) (ints_one hi) (rho_one d0) (num_one ⟨by decide, by decide⟩ d1) (num_one ⟨by decide, by decide⟩ d2) (num_one ⟨by decide, by decide⟩ d3) (num_ten d4)
  rw [aw_mix, aw_drw, show strOfNums [97] = ⟨#[97]⟩ by decide +kernel] at h
  exact h
 have HBx : Hid (∀ wx, Calls prog 47 #[] wx (Ret wx boxV)) := fun wx => box8_any wx
 refine za0 (Rl := OldT 57) 14 [.k (gv 2027 1013 4 9 a 5 5), .k (boxV), rowK 1 boxA 74 (by decide), rowK 1 #[.int .i64 0] 3 (by decide), .k (dv (some ⟨s, 0, none⟩) 1 1 (some ⟨s + 1, 0, none⟩) 1 1 (some ⟨s + 1 + 1, 0, none⟩) 1 1 (some ⟨s + 1 + 1 + 1, 0, none⟩) 1 1 (some ⟨s + 1 + 1 + 1 + 1, 0, none⟩) 10 10), shP V.heap.size 1 awM (aF 2027 1013 4 9 awO (fun _ => 1)) (mxB 2027 1013 4 9 [97] 64 1 awC awO awR (fun _ => 1) (fun _ => 2)) (mxP 2027 1013 4 9 [97] 64 1 awC awO awR (fun _ => 1) (fun _ => 2) (fun _ => 3)) 10 (mxK 2027 1013 4 9 [97] 64 1 awC awO awR (fun _ => 1) (fun _ => 2) (fun _ => 3) (fun _ => 0)) 10 (mxZ 2027 1013 4 9 [97] 64 1 awC awO awR (fun _ => 1) (fun _ => 2) (fun _ => 3) (fun _ => 0)), shP V.heap.size 1 awM (aF 2027 1013 4 9 awO (fun _ => 1)) (mxB 2027 1013 4 9 [97] 64 1 awC awO awR (fun _ => 1) (fun _ => 2)) (mxP 2027 1013 4 9 [97] 64 1 awC awO awR (fun _ => 1) (fun _ => 2) (fun _ => 3)) 10 (mxK 2027 1013 4 9 [97] 64 1 awC awO awR (fun _ => 1) (fun _ => 2) (fun _ => 3) (fun _ => 0)) 10 (mxZ 2027 1013 4 9 [97] 64 1 awC awO awR (fun _ => 1) (fun _ => 2) (fun _ => 3) (fun _ => 0)), shM 1 awM, shA V.heap.size 1 (aF 2027 1013 4 9 awO (fun _ => 1)) (mxB 2027 1013 4 9 [97] 64 1 awC awO awR (fun _ => 1) (fun _ => 2)) (mxP 2027 1013 4 9 [97] 64 1 awC awO awR (fun _ => 1) (fun _ => 2) (fun _ => 3)) 10 (mxK 2027 1013 4 9 [97] 64 1 awC awO awR (fun _ => 1) (fun _ => 2) (fun _ => 3) (fun _ => 0)) 10 (mxZ 2027 1013 4 9 [97] 64 1 awC awO awR (fun _ => 1) (fun _ => 2) (fun _ => 3) (fun _ => 0)), .k (.bool true), varE 57 5 V.heap.size, shM 1 awM, putE 57 10 8 V.heap.size, .k (.bool true)] (Old V) (by kernel_rfl) (by kernel_rfl) rfl (by kernel_rfl) ((Old.refl _).drew) ?st ?_
 case st =>
  refine .c (stsy U25 HGv.out) <| .c (stKy old_R func47 (fun wx _ => HBx.out wx)) <| .c (stmy (ob := fun _ => .cells boxA 74) (v := fun s => .slice (some ⟨s, 0, none⟩) 1 1) old_R fun t wx hR hd => ⟨_, rfl, heap_alloc_last _ _⟩) <| .c (stmy (ob := fun _ => .cells #[.int .i64 0] 3) (v := fun s => .slice (some ⟨s, 0, none⟩) 1 1) old_R fun t wx hR hd => ⟨_, rfl, heap_alloc_last _ _⟩) <| .c (stsy U31 HDv.out) <| .c (stCy (args := fun t => #[gv 2027 1013 4 9 a 5 5, .string ⟨#[97]⟩, .int .u64 64, t 2, t 3, dv (some ⟨s, 0, none⟩) 1 1 (some ⟨s + 1, 0, none⟩) 1 1 (some ⟨s + 1 + 1, 0, none⟩) 1 1 (some ⟨s + 1 + 1 + 1, 0, none⟩) 1 1 (some ⟨s + 1 + 1 + 1 + 1, 0, none⟩) 10 10]) old_R func31 fun t wx hR hd => ?_) <| .c (stxy fun t wx hR hd => ⟨t 5, by kernel_rfl, hd 5 (by kernel_rfl)⟩) <| .c (stxy fun t wx hR hd => ?_) <| .c (stxy fun t wx hR hd => ?_) <| .c (stzy fun t wx hR hd => ?_) <| .c (stmy (ob := fun _ => .cells #[.slice none 0 0, .slice none 0 0, .slice none 0 0, .slice none 0 0, .slice none 0 0] 57) (v := fun s => .pointer (some ⟨s, 0, none⟩)) old_R fun t wx hR hd => ⟨_, rfl, hR.size, _, heap_alloc_last _ _, rfl⟩) <| .c (stxy fun t wx hR hd => ⟨t 7, by kernel_rfl, hd 7 (by kernel_rfl)⟩) <| .c (stPy (n := 5) (fun _ _ => True) (fun w g cells h hg => h.setRow hg cells) fun t wx hR hd => ?_) <| .c stpy .n
  ·obtain ⟨b, e2, hb⟩ : ∃ b, t 2 = .slice (some ⟨b, 0, none⟩) 1 1 /\ wx.heap[b]? = some (.cells boxA 74 (0, 0)) := hd 2 (by kernel_rfl)
   obtain ⟨b2, e3, hi⟩ : ∃ b, t 3 = .slice (some ⟨b, 0, none⟩) 1 1 /\ wx.heap[b]? = some (.cells #[.int .i64 0] 3 (0, 0)) := hd 3 (by kernel_rfl)
   rw [e2, e3]
   refine (HPv.out wx b b2 hR hb hi).mono ?_
   rintro e w' ⟨ho, bm, cm, va, vb, vp, vk, vz, rfl, h0, h1, h2, h3, h4, h5⟩
   simp only [if_true] at h0 h1 h2 h3 h4 h5
   obtain ⟨ba, ca, rfl⟩ := zau h1
   obtain ⟨bb, cb, rfl⟩ := zau h2
   obtain ⟨bp, cp, rfl⟩ := zau h3
   obtain ⟨bk, ck, rfl⟩ := zau h4
   obtain ⟨bz, cz, rfl⟩ := zau h5
   exact ⟨_, rfl, ho, bm, cm, ba, ca, bb, cb, bp, cp, bk, ck, bz, cz, rfl, h0, h1.mono hR.size, h2.mono hR.size, h3.mono hR.size, h4.mono hR.size, h5.mono hR.size⟩
  ·obtain ⟨bm, cm, ba, ca, bb, cb, bp, cp, bk, ck, bz, cz, e, hb, N1, N2, N3, N4, N5⟩ : ∃ bm cm ba ca bb cb bp cp bk ck bz cz, t 6 = .tuple #[.slice bm 1 cm, .agg #[.slice ba 1 ca, .slice bb 1 cb, .slice bp 1 cp, .slice bk 10 ck, .slice bz 10 cz], .bool true] /\ BoxF wx bm 1 awM /\ Nums wx V.heap.size (.slice ba 1 ca) 1 (aF 2027 1013 4 9 awO (fun _ => 1)) /\ Nums wx V.heap.size (.slice bb 1 cb) 1 (mxB 2027 1013 4 9 [97] 64 1 awC awO awR (fun _ => 1) (fun _ => 2)) /\ Nums wx V.heap.size (.slice bp 1 cp) 1 (mxP 2027 1013 4 9 [97] 64 1 awC awO awR (fun _ => 1) (fun _ => 2) (fun _ => 3)) /\ Nums wx V.heap.size (.slice bk 10 ck) 10 (mxK 2027 1013 4 9 [97] 64 1 awC awO awR (fun _ => 1) (fun _ => 2) (fun _ => 3) (fun _ => 0)) /\ Nums wx V.heap.size (.slice bz 10 cz) 10 (mxZ 2027 1013 4 9 [97] 64 1 awC awO awR (fun _ => 1) (fun _ => 2) (fun _ => 3) (fun _ => 0)) := hd 6 (by kernel_rfl)
   exact ⟨_, zaR (Eq.trans (b := t 6) (by kernel_rfl) e) rfl, bm, cm, rfl, hb⟩
  ·obtain ⟨bm, cm, ba, ca, bb, cb, bp, cp, bk, ck, bz, cz, e, hb, N1, N2, N3, N4, N5⟩ : ∃ bm cm ba ca bb cb bp cp bk ck bz cz, t 6 = .tuple #[.slice bm 1 cm, .agg #[.slice ba 1 ca, .slice bb 1 cb, .slice bp 1 cp, .slice bk 10 ck, .slice bz 10 cz], .bool true] /\ BoxF wx bm 1 awM /\ Nums wx V.heap.size (.slice ba 1 ca) 1 (aF 2027 1013 4 9 awO (fun _ => 1)) /\ Nums wx V.heap.size (.slice bb 1 cb) 1 (mxB 2027 1013 4 9 [97] 64 1 awC awO awR (fun _ => 1) (fun _ => 2)) /\ Nums wx V.heap.size (.slice bp 1 cp) 1 (mxP 2027 1013 4 9 [97] 64 1 awC awO awR (fun _ => 1) (fun _ => 2) (fun _ => 3)) /\ Nums wx V.heap.size (.slice bk 10 ck) 10 (mxK 2027 1013 4 9 [97] 64 1 awC awO awR (fun _ => 1) (fun _ => 2) (fun _ => 3) (fun _ => 0)) /\ Nums wx V.heap.size (.slice bz 10 cz) 10 (mxZ 2027 1013 4 9 [97] 64 1 awC awO awR (fun _ => 1) (fun _ => 2) (fun _ => 3) (fun _ => 0)) := hd 6 (by kernel_rfl)
   exact ⟨_, zaR (Eq.trans (b := t 6) (by kernel_rfl) e) rfl, ba, ca, bb, cb, bp, cp, bk, ck, bz, cz, rfl, N1, N2, N3, N4, N5⟩
  ·obtain ⟨bm, cm, ba, ca, bb, cb, bp, cp, bk, ck, bz, cz, e, hb, N1, N2, N3, N4, N5⟩ : ∃ bm cm ba ca bb cb bp cp bk ck bz cz, t 6 = .tuple #[.slice bm 1 cm, .agg #[.slice ba 1 ca, .slice bb 1 cb, .slice bp 1 cp, .slice bk 10 ck, .slice bz 10 cz], .bool true] /\ BoxF wx bm 1 awM /\ Nums wx V.heap.size (.slice ba 1 ca) 1 (aF 2027 1013 4 9 awO (fun _ => 1)) /\ Nums wx V.heap.size (.slice bb 1 cb) 1 (mxB 2027 1013 4 9 [97] 64 1 awC awO awR (fun _ => 1) (fun _ => 2)) /\ Nums wx V.heap.size (.slice bp 1 cp) 1 (mxP 2027 1013 4 9 [97] 64 1 awC awO awR (fun _ => 1) (fun _ => 2) (fun _ => 3)) /\ Nums wx V.heap.size (.slice bk 10 ck) 10 (mxK 2027 1013 4 9 [97] 64 1 awC awO awR (fun _ => 1) (fun _ => 2) (fun _ => 3) (fun _ => 0)) /\ Nums wx V.heap.size (.slice bz 10 cz) 10 (mxZ 2027 1013 4 9 [97] 64 1 awC awO awR (fun _ => 1) (fun _ => 2) (fun _ => 3) (fun _ => 0)) := hd 6 (by kernel_rfl)
   exact zaR (Eq.trans (b := t 6) (by kernel_rfl) e) rfl
  ·obtain ⟨ba, ca, bb, cb, bp, cp, bk, ck, bz, cz, e8, _⟩ : ∃ ba ca bb cb bp cp bk ck bz cz, t 8 = .agg #[.slice ba 1 ca, .slice bb 1 cb, .slice bp 1 cp, .slice bk 10 ck, .slice bz 10 cz] /\ _ := hd 8 (by kernel_rfl)
   obtain ⟨b, e10, hb, cs, hcs, hs⟩ : ∃ b, t 10 = .pointer (some ⟨b, 0, none⟩) /\ V.heap.size <= b /\ ∃ cs, wx.heap[b]? = some (.cells cs 57 (0, 0)) /\ cs.size = 5 := hd 10 (by kernel_rfl)
   exact ⟨b, _, cs, e10, e8, hb, hcs, hs, rfl, by simp [Value.oneCell']⟩
 intro t wx hR hk
 simp only [fill2, Ent2.val, rowK, shP, shM, shA, varE, putE, zs0, zs1, zd1, zd0, zdn]
 obtain ⟨bm, cm, e11, hbm⟩ : ∃ bm cm, t 11 = .slice bm 1 cm /\ BoxF wx bm 1 awM := hk 11 (by omega)
 obtain ⟨ps, cs, e12, hps, hrow⟩ : ∃ b cs, [t 10, t 8] = [.pointer (some ⟨b, 0, none⟩), .agg cs] /\ V.heap.size <= b /\ wx.heap[b]? = some (.cells cs 57 (0, 0)) := hk 12 (by omega)
 obtain ⟨ba, ca, bb, cb, bp, cp, bk, ck, bz, cz, e8, N1, N2, N3, N4, N5⟩ : ∃ ba ca bb cb bp cp bk ck bz cz, t 8 = .agg #[.slice ba 1 ca, .slice bb 1 cb, .slice bp 1 cp, .slice bk 10 ck, .slice bz 10 cz] /\ Nums wx V.heap.size (.slice ba 1 ca) 1 (aF 2027 1013 4 9 awO (fun _ => 1)) /\ Nums wx V.heap.size (.slice bb 1 cb) 1 (mxB 2027 1013 4 9 [97] 64 1 awC awO awR (fun _ => 1) (fun _ => 2)) /\ Nums wx V.heap.size (.slice bp 1 cp) 1 (mxP 2027 1013 4 9 [97] 64 1 awC awO awR (fun _ => 1) (fun _ => 2) (fun _ => 3)) /\ Nums wx V.heap.size (.slice bk 10 ck) 10 (mxK 2027 1013 4 9 [97] 64 1 awC awO awR (fun _ => 1) (fun _ => 2) (fun _ => 3) (fun _ => 0)) /\ Nums wx V.heap.size (.slice bz 10 cz) 10 (mxZ 2027 1013 4 9 [97] 64 1 awC awO awR (fun _ => 1) (fun _ => 2) (fun _ => 3) (fun _ => 0)) := hk 8 (by omega)
 rw [e8] at e12
 have e10 : t 10 = .pointer (some ⟨ps, 0, none⟩) := by injection e12
 have ecs : cs = #[.slice ba 1 ca, .slice bb 1 cb, .slice bp 1 cp, .slice bk 10 ck, .slice bz 10 cz] := by
  injection e12 with _ e12
  injection e12 with e12 _
  injection e12 with e12
  exact e12.symm
 subst ecs
 rw [e10, e11]
 clear e8 e10 e11 e12 hk
 have HV := hid hR
 rcases hbm with h0 | ⟨mb, mcs, rfl, hmb, hmc⟩
 ·cases h0
 have HM : Hid (∀ wy, Old wx wy -> BoxsIn wy (some ⟨mb, 0, none⟩) 1 awM) := fun wy ho => (BoxF.boxs (Or.inr ⟨mb, mcs, rfl, hmb, hmc⟩)).old ho
 have HMl : Hid (∀ wy, Old wx wy -> (loadVar 74 ⟨mb, 0, none⟩).run prog wy = .ok (.agg #[.int .u64 1024, .int .u64 1590, .int .u64 42, .int .u64 1936, .int .u64 672, .int .u64 1583]) wy) := fun wy ho => zbM wy mb 0 _ _ _ (fun j v hv => by
  have hh := (ho.block _ (zag hmb)).trans hmb
  rw [Nat.zero_add, cell_of_row _ _ j _ _ (0, 0) hh]
  have hj : j < 6 := (Array.getElem?_eq_some_iff.1 hv).1
  have := (hmc 0 (by omega) j hj).1
  rw [aw_M j hj, Nat.zero_mul, Nat.zero_add] at this
  rw [this, <- hv]
  match j, hj with
  | 0, _ => rfl
  | 1, _ => rfl
  | 2, _ => rfl
  | 3, _ => rfl
  | 4, _ => rfl
  | 5, _ => rfl) U74 rfl info_box
 have HSr := hid fun wy (ho : Old wx wy) => (ho.block _ (zag hrow)).trans hrow
 have HGx := hid fun wy (ho : Old wx wy) => HGv.out wy (HV.out.trans ho)
 have uA : ∀ i, i < 1 -> U64 ((aF 2027 1013 4 9 awO (fun _ => 1)) i) := fun i _ => zaQ _ _ _ _ _ _
 have uB : ∀ i, i < 1 -> U64 ((mxB 2027 1013 4 9 [97] 64 1 awC awO awR (fun _ => 1) (fun _ => 2)) i) := fun i _ => zaQ _ _ _ _ _ _
 have uP : ∀ i, i < 1 -> U64 ((mxP 2027 1013 4 9 [97] 64 1 awC awO awR (fun _ => 1) (fun _ => 2) (fun _ => 3)) i) := fun i _ => zb5 _ _ _ _ _ _ _ _ _ _ _ i
 have uK : ∀ i, i < 10 -> U64 ((mxK 2027 1013 4 9 [97] 64 1 awC awO awR (fun _ => 1) (fun _ => 2) (fun _ => 3) (fun _ => 0)) i) := fun i _ => zdm _ _ _
 have uZ : ∀ i, i < 10 -> U64 ((mxZ 2027 1013 4 9 [97] 64 1 awC awO awR (fun _ => 1) (fun _ => 2) (fun _ => 3) (fun _ => 0)) i) := fun i _ => zeH _ _ _ _
 obtain ⟨_, _, E1, q1, q2, f1⟩ := N1.facs2 uA
 obtain ⟨_, _, E2, q3, q4, f2⟩ := N2.facs2 uB
 obtain ⟨_, _, E3, _, _, f3⟩ := N3.facs2 uP
 obtain ⟨_, _, E4, _, _, f4⟩ := N4.facs2 uK
 obtain ⟨_, _, E5, _, _, f5⟩ := N5.facs2 uZ
 cases E1
 cases E2
 cases E3
 cases E4
 cases E5
 have HAc : Hid (∀ wy (bi : OA) (C : NN) (ci co : Nat) r, Old wx wy -> BoxsIn wy bi 1 C -> accG 2027 1013 4 9 [97] 64 1 C 1 awM 1 (aF 2027 1013 4 9 awO (fun _ => 1)) 1 (mxB 2027 1013 4 9 [97] 64 1 awC awO awR (fun _ => 1) (fun _ => 2)) 1 (mxP 2027 1013 4 9 [97] 64 1 awC awO awR (fun _ => 1) (fun _ => 2) (fun _ => 3)) 10 (mxK 2027 1013 4 9 [97] 64 1 awC awO awR (fun _ => 1) (fun _ => 2) (fun _ => 3) (fun _ => 0)) 10 (mxZ 2027 1013 4 9 [97] 64 1 awC awO awR (fun _ => 1) (fun _ => 2) (fun _ => 3) (fun _ => 0)) = r -> Calls prog 34 #[gv 2027 1013 4 9 a 5 5, .string ⟨#[97]⟩, .int .u64 64, .slice bi 1 ci, .slice (some ⟨mb, 0, none⟩) 1 co, .agg #[.slice ba 1 ca, .slice bb 1 cb, .slice bp 1 cp, .slice bk 10 ck, .slice bz 10 cz]] wy (Ret wy (.bool r))) := fun wy bi C ci co r ho hb hr => by
  have h := zd4 2027 1013 4 9 a 5 5 [97] 64 bi 1 ci C (some ⟨mb, 0, none⟩) 1 co awM ba 1 ca _ bb 1 cb _ bp 1 cp _ bk 10 ck _ bz 10 cz _ wy four_sm zdq ⟨by decide, by decide⟩ (by unfold Bts; decide) (by decide) (by decide) ⟨q1, q2⟩ ⟨q3, q4⟩ (by decide) hb (HM.out wy ho) (f1.old ho) (f2.old ho) (f3.old ho) (f4.old ho) (f5.old ho)
  rw [show strOfNums [97] = ⟨#[97]⟩ by decide +kernel, hr] at h
  exact h
 have HYes : Hid (accG 2027 1013 4 9 [97] 64 1 awC 1 awM 1 (aF 2027 1013 4 9 awO (fun _ => 1)) 1 (mxB 2027 1013 4 9 [97] 64 1 awC awO awR (fun _ => 1) (fun _ => 2)) 1 (mxP 2027 1013 4 9 [97] 64 1 awC awO awR (fun _ => 1) (fun _ => 2) (fun _ => 3)) 10 (mxK 2027 1013 4 9 [97] 64 1 awC awO awR (fun _ => 1) (fun _ => 2) (fun _ => 3) (fun _ => 0)) 10 (mxZ 2027 1013 4 9 [97] 64 1 awC awO awR (fun _ => 1) (fun _ => 2) (fun _ => 3) (fun _ => 0)) = true) := aw_mx.accG [97] fun k _ => Int.le_refl 0
 have HNo : Hid (accG 2027 1013 4 9 [97] 64 1 awM 1 awM 1 (aF 2027 1013 4 9 awO (fun _ => 1)) 1 (mxB 2027 1013 4 9 [97] 64 1 awC awO awR (fun _ => 1) (fun _ => 2)) 1 (mxP 2027 1013 4 9 [97] 64 1 awC awO awR (fun _ => 1) (fun _ => 2) (fun _ => 3)) 10 (mxK 2027 1013 4 9 [97] 64 1 awC awO awR (fun _ => 1) (fun _ => 2) (fun _ => 3) (fun _ => 0)) 10 (mxZ 2027 1013 4 9 [97] 64 1 awC awO awR (fun _ => 1) (fun _ => 2) (fun _ => 3) (fun _ => 0)) = false) := aw_no _ _ _ _
 clear N1 N2 N3 N4 N5 f1 f2 f3 f4 f5 uA uB uP uK uZ hR hrow hmb hmc hps HPv HGv HDv HD HG q1 q2 q3 q4
 generalize aF 2027 1013 4 9 awO (fun _ => 1) = lA at *
 generalize mxB 2027 1013 4 9 [97] 64 1 awC awO awR (fun _ => 1) (fun _ => 2) = lB at *
 generalize mxP 2027 1013 4 9 [97] 64 1 awC awO awR (fun _ => 1) (fun _ => 2) (fun _ => 3) = lP at *
 generalize mxK 2027 1013 4 9 [97] 64 1 awC awO awR (fun _ => 1) (fun _ => 2) (fun _ => 3) (fun _ => 0) = lK at *
 generalize mxZ 2027 1013 4 9 [97] 64 1 awC awO awR (fun _ => 1) (fun _ => 2) (fun _ => 3) (fun _ => 0) = lZ at *
 go_upto_region 4 with fail
 refine zaa 30 [.k (.bool true), .k (.bool true), .k (.slice (some ⟨mb, 0, none⟩) 1 cm), .k (.int .i64 (1 : Nat)), .k (.bool true), .k (.bool true), .k (.bool true), .k (.slice (some ⟨mb, 0, none⟩) 1 cm), .k (.pointer (some ⟨mb, 0 * 6, none⟩)), .k (.agg #[.int .u64 1024, .int .u64 1590, .int .u64 42, .int .u64 1936, .int .u64 672, .int .u64 1583]), .k (boxV), .k (.bool true), .k (.bool true), .k (.bool true), .k (gv 2027 1013 4 9 a 5 5), .k (boxV), blkE 1 boxA 74, .k (.slice (some ⟨mb, 0, none⟩) 1 cm), .k (.agg #[.slice ba 1 ca, .slice bb 1 cb, .slice bp 1 cp, .slice bk 10 ck, .slice bz 10 cz]), .k (.bool true), .k (.bool true), .k (.bool true), .k (gv 2027 1013 4 9 a 5 5), .k (.slice (some ⟨mb, 0, none⟩) 1 cm), .k (.slice (some ⟨mb, 0, none⟩) 1 cm), .k (.agg #[.slice ba 1 ca, .slice bb 1 cb, .slice bp 1 cp, .slice bk 10 ck, .slice bz 10 cz]), .k (.bool false), .k (.bool true), .k (.bool true), .k (.bool true)] (Old wx) (by kernel_rfl) (by kernel_rfl) rfl ((Old.refl _).drew) ?st ?_
 case st =>
  refine .p <| .p <| .p <| .p <| .p <| .p <| .p <| .p <| .c (stj0 (n := 1) (c := cm) 6 (by omega) U26) <| .c (stlv HMl.out) <| .c (stK old_R func47 (fun wx _ => HBx.out wx)) <| .p <| .p <| .p <| .c (sts U25 HGx.out) <| .c (stK old_R func47 (fun wx _ => HBx.out wx)) <| .c (stm (ob := fun t => .cells boxA 74) (v := fun s => .slice (some ⟨s, 0, none⟩) 1 1) old_R fun t wx hR hd => ⟨_, rfl, heap_alloc_last _ _⟩) <| .p <| .c (sts U57 HSr.out) <| .c (stC (args := fun t => #[gv 2027 1013 4 9 a 5 5, .string ⟨#[97]⟩, .int .u64 64, t 16, .slice (some ⟨mb, 0, none⟩) 1 cm, .agg #[.slice ba 1 ca, .slice bb 1 cb, .slice bp 1 cp, .slice bk 10 ck, .slice bz 10 cz]]) old_R func34 fun t wy hR hd => ?_) <| .p <| .p <| .c (sts U25 HGx.out) <| .p <| .p <| .c (sts U57 HSr.out) <| .c (stK old_R func34 (fun wy ho => HAc.out wy (some ⟨mb, 0, none⟩) awM cm cm false ho (HM.out wy ho) HNo.out)) <| .p <| .p <| .c stp .n
  ·obtain ⟨b, e, hb⟩ : ∃ b, t 16 = .slice (some ⟨b, 0, none⟩) 1 1 /\ wy.heap[b]? = some (.cells boxA 74 (0, 0)) := hd 16 (by kernel_rfl)
   rw [e]
   exact (HAc.out wy (some ⟨b, 0, none⟩) awC 1 cm true hR (boxs_one hb) HYes.out).mono fun r w' ⟨h, k⟩ => ⟨_, h, k, rfl⟩
 intro t wz hR hk
 simp only [fill, Ent.val, blkE, zs0, zs1, zd1, zd0, zdn]
 have HO9 := hid ((HOw.out.trans HOd.out).trans (HV.out.trans hR))
 clear hR hk
 go_wp2_with fail
 go_ret
 exact ⟨rfl, HO9.out⟩
abbrev jv (label : List Int) (y : Int) (bi : OA) (l ci : Nat) (bo : OA) (no co : Nat) (bρ : OA) (nρ cρ : Nat) (bR : OA) (nR cR : Nat) (bS : OA) (nS cS : Nat) (bT : OA) (nT cT : Nat) (bD : OA) (nD cD : Nat) : Value := .agg #[.string (strOfNums label), .int .u64 y, .slice bi l ci, .slice bo no co, .slice bρ nρ cρ, .slice bR nR cR, .slice bS nS cS, .slice bT nT cT, .slice bD nD cD]
abbrev jvc (label : List Int) (y : Int) (bi : OA) (l ci : Nat) (bo : OA) (no co : Nat) (bρ : OA) (nρ cρ : Nat) (bR : OA) (nR cR : Nat) (bS : OA) (nS cS : Nat) (bT : OA) (nT cT : Nat) (bD : OA) (nD cD : Nat) : Array Value := #[.string (strOfNums label), .int .u64 y, .slice bi l ci, .slice bo no co, .slice bρ nρ cρ, .slice bR nR cR, .slice bS nS cS, .slice bT nT cT, .slice bD nD cD]
def fewR (nρ nR nS nT nD : Nat) : Bool := decide (nρ <= 10 /\ nR <= 10 /\ nS <= 10 /\ nT <= 10 /\ nD <= 80)
def fewJ (ln l no nρ nR nS nT nD : Nat) : Bool := decide (ln <= 100 /\ l <= 10 /\ no <= 10) && fewR nρ nR nS nT nD
theorem fewJ_iff {ln l no nρ nR nS nT nD : Nat} : fewJ ln l no nρ nR nS nT nD = true ↔ (ln <= 100 /\ l <= 10 /\ no <= 10) /\ nρ <= 10 /\ nR <= 10 /\ nS <= 10 /\ nT <= 10 /\ nD <= 80 := by unfold fewJ fewR; simp [Bool.and_eq_true_iff]
theorem few8d_any (bρ : OA) (nρ cρ : Nat) (bR : OA) (nR cR : Nat) (bS : OA) (nS cS : Nat) (bT : OA) (nT cT : Nat) (bD : OA) (nD cD : Nat) (w : World) : Calls prog 49 #[dv bρ nρ cρ bR nR cR bS nS cS bT nT cT bD nD cD] w (Ret w (.bool (fewR nρ nR nS nT nD))) := by
 have HZ := lain1 w (dvc bρ nρ cρ bR nR cR bS nS cS bT nT cT bD nD cD) 31
 have HW0 : Hid (Old w (w.alloc (.cells (dvc bρ nρ cρ bR nR cR bS nS cS bT nT cT bD nD cD) 31))) := HZ.old
 have d0 := HZ.cell 0 0 (by simp) rfl
 have d1 := HZ.cell 0 1 (by simp) rfl
 have d2 := HZ.cell 0 2 (by simp) rfl
 have d3 := HZ.cell 0 3 (by simp) rfl
 have d4 := HZ.cell 0 4 (by simp) rfl
 clear HZ
 simp only [Nat.add_zero] at d0 d1 d2 d3 d4
 by_cases h0 : nρ <= 10
 rotate_left
 ·have k0 : ¬ (nρ : Int) <= 10 := by omega
  have HV : Hid (fewR nρ nR nS nT nD = false) := by unfold Hid fewR; simp [h0]
  rw [HV.out]
  clear h0
  go_enter func49, ntmps49
  go_upto_region 1 with fail
  generalize w.alloc (.cells (dvc bρ nρ cρ bR nR cR bS nS cS bT nT cT bD nD cD) 31) = W at *
  go_wp2_with fail
  go_ret
  exact ⟨rfl, HW0.out⟩
 have k0 : (nρ : Int) <= 10 := by omega
 by_cases h1 : nR <= 10
 rotate_left
 ·have k1 : ¬ (nR : Int) <= 10 := by omega
  have HV : Hid (fewR nρ nR nS nT nD = false) := by unfold Hid fewR; simp [h0, h1]
  rw [HV.out]
  clear h0
  clear h1
  go_enter func49, ntmps49
  go_upto_region 1 with fail
  generalize w.alloc (.cells (dvc bρ nρ cρ bR nR cR bS nS cS bT nT cT bD nD cD) 31) = W at *
  go_wp2_with fail
  go_ret
  exact ⟨rfl, HW0.out⟩
 have k1 : (nR : Int) <= 10 := by omega
 by_cases h2 : nS <= 10
 rotate_left
 ·have k2 : ¬ (nS : Int) <= 10 := by omega
  have HV : Hid (fewR nρ nR nS nT nD = false) := by unfold Hid fewR; simp [h0, h1, h2]
  rw [HV.out]
  clear h0
  clear h1
  clear h2
  go_enter func49, ntmps49
  go_upto_region 1 with fail
  generalize w.alloc (.cells (dvc bρ nρ cρ bR nR cR bS nS cS bT nT cT bD nD cD) 31) = W at *
  go_wp2_with fail
  go_ret
  exact ⟨rfl, HW0.out⟩
 have k2 : (nS : Int) <= 10 := by omega
 by_cases h3 : nT <= 10
 rotate_left
 ·have k3 : ¬ (nT : Int) <= 10 := by omega
  have HV : Hid (fewR nρ nR nS nT nD = false) := by unfold Hid fewR; simp [h0, h1, h2, h3]
  rw [HV.out]
  clear h0
  clear h1
  clear h2
  clear h3
  go_enter func49, ntmps49
  go_upto_region 1 with fail
  generalize w.alloc (.cells (dvc bρ nρ cρ bR nR cR bS nS cS bT nT cT bD nD cD) 31) = W at *
  go_wp2_with fail
  go_ret
  exact ⟨rfl, HW0.out⟩
 have k3 : (nT : Int) <= 10 := by omega
 by_cases h4 : nD <= 80
 rotate_left
 ·have k4 : ¬ (nD : Int) <= 80 := by omega
  have HV : Hid (fewR nρ nR nS nT nD = false) := by unfold Hid fewR; simp [h0, h1, h2, h3, h4]
  rw [HV.out]
  clear h0
  clear h1
  clear h2
  clear h3
  clear h4
  go_enter func49, ntmps49
  go_upto_region 1 with fail
  generalize w.alloc (.cells (dvc bρ nρ cρ bR nR cR bS nS cS bT nT cT bD nD cD) 31) = W at *
  go_wp2_with fail
  go_ret
  exact ⟨rfl, HW0.out⟩
 have k4 : (nD : Int) <= 80 := by omega
 have HV : Hid (fewR nρ nR nS nT nD = true) := by unfold Hid fewR; simp [h0, h1, h2, h3, h4]
 rw [HV.out]
 clear h0
 clear h1
 clear h2
 clear h3
 clear h4
 go_enter func49, ntmps49
 go_upto_region 1 with fail
 generalize w.alloc (.cells (dvc bρ nρ cρ bR nR cR bS nS cS bT nT cT bD nD cD) 31) = W at *
 go_wp2_with fail
 go_ret
 exact ⟨rfl, HW0.out⟩
theorem few8_any (label : List Int) (y : Int) (bi : OA) (l ci : Nat) (bo : OA) (no co : Nat) (bρ : OA) (nρ cρ : Nat) (bR : OA) (nR cR : Nat) (bS : OA) (nS cS : Nat) (bT : OA) (nT cT : Nat) (bD : OA) (nD cD : Nat) (w : World) : Calls prog 14 #[jv label y bi l ci bo no co bρ nρ cρ bR nR cR bS nS cS bT nT cT bD nD cD] w (Ret w (.bool (fewJ label.length l no nρ nR nS nT nD))) := by
 have HFw : Hid (∀ wx, Calls prog 49 #[dv bρ nρ cρ bR nR cR bS nS cS bT nT cT bD nD cD] wx (Ret wx (.bool (fewR nρ nR nS nT nD)))) := fun wx => few8d_any bρ nρ cρ bR nR cR bS nS cS bT nT cT bD nD cD wx
 have hsz : (strOfNums label).size = label.length := strOfNums_size label
 have HZ := lain1 w (jvc label y bi l ci bo no co bρ nρ cρ bR nR cR bS nS cS bT nT cT bD nD cD) 33
 have HW0 : Hid (Old w (w.alloc (.cells (jvc label y bi l ci bo no co bρ nρ cρ bR nR cR bS nS cS bT nT cT bD nD cD) 33))) := HZ.old
 have d0 := HZ.cell 0 0 (by simp) rfl
 have d2 := HZ.cell 0 2 (by simp) rfl
 have d3 := HZ.cell 0 3 (by simp) rfl
 have d4 := HZ.cell 0 4 (by simp) rfl
 have d5 := HZ.cell 0 5 (by simp) rfl
 have d6 := HZ.cell 0 6 (by simp) rfl
 have d7 := HZ.cell 0 7 (by simp) rfl
 have d8 := HZ.cell 0 8 (by simp) rfl
 clear HZ
 simp only [Nat.add_zero] at d0 d2 d3 d4 d5 d6 d7 d8
 by_cases h0 : label.length <= 100
 rotate_left
 ·have k0 : ¬ (label.length : Int) <= 100 := by omega
  have HV : Hid (fewJ label.length l no nρ nR nS nT nD = false) := by unfold Hid fewJ; simp [h0]
  rw [HV.out]
  clear h0
  go_enter func14, ntmps14
  go_upto_region 1 with fail
  generalize w.alloc (.cells (jvc label y bi l ci bo no co bρ nρ cρ bR nR cR bS nS cS bT nT cT bD nD cD) 33) = W at *
  go_wp2_with fail
  go_ret
  exact ⟨rfl, HW0.out⟩
 have k0 : (label.length : Int) <= 100 := by omega
 by_cases h1 : l <= 10
 rotate_left
 ·have k1 : ¬ (l : Int) <= 10 := by omega
  have HV : Hid (fewJ label.length l no nρ nR nS nT nD = false) := by unfold Hid fewJ; simp [h0, h1]
  rw [HV.out]
  clear h0
  clear h1
  go_enter func14, ntmps14
  go_upto_region 1 with fail
  generalize w.alloc (.cells (jvc label y bi l ci bo no co bρ nρ cρ bR nR cR bS nS cS bT nT cT bD nD cD) 33) = W at *
  go_wp2_with fail
  go_ret
  exact ⟨rfl, HW0.out⟩
 have k1 : (l : Int) <= 10 := by omega
 by_cases h2 : no <= 10
 rotate_left
 ·have k2 : ¬ (no : Int) <= 10 := by omega
  have HV : Hid (fewJ label.length l no nρ nR nS nT nD = false) := by unfold Hid fewJ; simp [h0, h1, h2]
  rw [HV.out]
  clear h0
  clear h1
  clear h2
  go_enter func14, ntmps14
  go_upto_region 1 with fail
  generalize w.alloc (.cells (jvc label y bi l ci bo no co bρ nρ cρ bR nR cR bS nS cS bT nT cT bD nD cD) 33) = W at *
  go_wp2_with fail
  go_ret
  exact ⟨rfl, HW0.out⟩
 have k2 : (no : Int) <= 10 := by omega
 have HV : Hid (fewJ label.length l no nρ nR nS nT nD = fewR nρ nR nS nT nD) := by unfold Hid fewJ; simp [h0, h1, h2]
 rw [HV.out]
 clear h0
 clear h1
 clear h2
 generalize fewR nρ nR nS nT nD = fr at *
 go_enter func14, ntmps14
 go_upto_region 1 with fail
 generalize w.alloc (.cells (jvc label y bi l ci bo no co bρ nρ cρ bR nR cR bS nS cS bT nT cT bD nD cD) 33) = W at *
 go_wp2_with (go_at_call 49; refine (HFw.out _).mono ?_; rintro e w1 ⟨rfl, o1⟩)
 go_ret
 exact ⟨rfl, HW0.out.trans o1⟩
end
section
open Go Go.RowKit
theorem ze5 : (prog.info? 69).map (·.size) = some 2 := by kernel_rfl
theorem zbS (w : World) (c : Array Value) (off : Nat) (x y : Value) (h : c.extract off (off + 2) = #[x, y]) : (part 69 c off).run prog w = .ok (.agg #[x, y]) w := by
 obtain ⟨i, hi, hs⟩ := Option.map_eq_some_iff.1 ze5
 have hag : (isAgg 69).run prog w = .ok true w := by
  unfold isAgg
  rw [Sem.run_bind, run_underlying U69 w]
  simp
 unfold part
 simp [Sem.run_bind, hag, sizeOf, typeInfo, hi, hs, h]
theorem pair_eq8 (w : World) (d : Nat) (a b a' b' : Int) : (Op.equalIn (d + 1 + 1) 69 (.agg #[.int .u64 a, .int .u64 b]) (.agg #[.int .u64 a', .int .u64 b'])).run prog w = .ok (a == a' && b == b') w := by
 rw [run_equalIn_agg w (d + 1) _ _ _ (by kernel_rfl) (by kernel_rfl)]
 have hu := U69
 have hi := U22
 unfold Program.fieldsOf
 rw [hu]
 dsimp only
 have hp : ∀ (c : Array Value) (off : Nat) (v : Value) (w : World), c[off]? = some v -> (part 22 c off).run prog w = .ok v w := fun c off v w h => by
  have hag : (isAgg 22).run prog w = .ok false w := by
   unfold isAgg
   rw [Sem.run_bind, run_underlying hi w]
   simp
  unfold part
  simp [Sem.run_bind, hag, h]
 simp only [Op.eqFields, Sem.run_bind]
 simp [hp, run_equalIn_int _ _ _ _ _ _ _ hi, Sem.run_bind]
 by_cases h1 : a = a' <;> by_cases h2 : b = b' <;> simp [h1, h2]
theorem box_eq8 (w : World) (d : Nat) (a0 a1 a2 a3 a4 a5 b0 b1 b2 b3 b4 b5 : Int) : (Op.equalIn (d + 1 + 1 + 1) 74 (.agg #[.int .u64 a0, .int .u64 a1, .int .u64 a2, .int .u64 a3, .int .u64 a4, .int .u64 a5]) (.agg #[.int .u64 b0, .int .u64 b1, .int .u64 b2, .int .u64 b3, .int .u64 b4, .int .u64 b5])).run prog w = .ok (decide (a0 = b0 /\ a1 = b1 /\ a2 = b2 /\ a3 = b3 /\ a4 = b4 /\ a5 = b5)) w := by
 obtain ⟨i, hi, hs⟩ := Option.map_eq_some_iff.1 ze5
 have hc : prog.cellsOf 69 = 2 := by kernel_rfl
 rw [run_equalIn_array w (d + 1 + 1) _ _ U74 hi, hc, show List.range 3 = [0, 1, 2] from rfl]
 have p0 := zbS w #[.int .u64 a0, .int .u64 a1, .int .u64 a2, .int .u64 a3, .int .u64 a4, .int .u64 a5] (0 * 2) (.int .u64 a0) (.int .u64 a1) rfl
 have p1 := zbS w #[.int .u64 a0, .int .u64 a1, .int .u64 a2, .int .u64 a3, .int .u64 a4, .int .u64 a5] (1 * 2) (.int .u64 a2) (.int .u64 a3) rfl
 have p2 := zbS w #[.int .u64 a0, .int .u64 a1, .int .u64 a2, .int .u64 a3, .int .u64 a4, .int .u64 a5] (2 * 2) (.int .u64 a4) (.int .u64 a5) rfl
 have q0 := zbS w #[.int .u64 b0, .int .u64 b1, .int .u64 b2, .int .u64 b3, .int .u64 b4, .int .u64 b5] (0 * 2) (.int .u64 b0) (.int .u64 b1) rfl
 have q1 := zbS w #[.int .u64 b0, .int .u64 b1, .int .u64 b2, .int .u64 b3, .int .u64 b4, .int .u64 b5] (1 * 2) (.int .u64 b2) (.int .u64 b3) rfl
 have q2 := zbS w #[.int .u64 b0, .int .u64 b1, .int .u64 b2, .int .u64 b3, .int .u64 b4, .int .u64 b5] (2 * 2) (.int .u64 b4) (.int .u64 b5) rfl
 simp only [Op.eqItems, Sem.run_bind, Sem.run_ite, p0, p1, p2, q0, q1, q2, Result.andThen_ok, pair_eq8, Sem.run_pure]
 by_cases h0 : a0 = b0 <;> by_cases h1 : a1 = b1 <;> by_cases h2 : a2 = b2 <;> by_cases h3 : a3 = b3 <;> by_cases h4 : a4 = b4 <;> by_cases h5 : a5 = b5 <;> simp [h0, h1, h2, h3, h4, h5]
theorem run_neq_box (w : World) (ev : Operand -> Value) (x y : Operand) (dst : Option Tmp) (ty t2 : TypeId) (pos : String) (after : Array Edge) (guard : Option (Nat × Bool)) (a0 a1 a2 a3 a4 a5 b0 b1 b2 b3 b4 b5 : Int) (hx : ev x = .agg #[.int .u64 a0, .int .u64 a1, .int .u64 a2, .int .u64 a3, .int .u64 a4, .int .u64 a5]) (hy : ev y = .agg #[.int .u64 b0, .int .u64 b1, .int .u64 b2, .int .u64 b3, .int .u64 b4, .int .u64 b5]) : (execOp ev ⟨dst, .binOp .neq 74 x y t2, ty, pos, after, guard⟩).run prog w = .ok (.value (.bool (!(decide (a0 = b0 /\ a1 = b1 /\ a2 = b2 /\ a3 = b3 /\ a4 = b4 /\ a5 = b5))))) w := by
 have hm : prog.eqGuardType prog.depth 74 = false := by kernel_rfl
 simp only [execOp, hx, hy]
 go_simp
 rw [show (10000 : Nat) = 9997 + 1 + 1 + 1 from rfl, box_eq8]
 simp
abbrev bx6 (F : NI) : Value := .agg #[.int .u64 (F 0), .int .u64 (F 1), .int .u64 (F 2), .int .u64 (F 3), .int .u64 (F 4), .int .u64 (F 5)]
abbrev bx6a (F : NI) : Array Value := #[.int .u64 (F 0), .int .u64 (F 1), .int .u64 (F 2), .int .u64 (F 3), .int .u64 (F 4), .int .u64 (F 5)]
def eqb6 (F G : NI) : Bool := decide (F 0 = G 0 /\ F 1 = G 1 /\ F 2 = G 2 /\ F 3 = G 3 /\ F 4 = G 4 /\ F 5 = G 5)
theorem eqb6_iff {F G : NI} : eqb6 F G = true ↔ ∀ k, k < 6 -> F k = G k := by
 unfold eqb6
 rw [decide_eq_true_iff]
 constructor
 ·rintro ⟨h0, h1, h2, h3, h4, h5⟩ k hk
  match k, hk with
  | 0, _ => exact h0
  | 1, _ => exact h1
  | 2, _ => exact h2
  | 3, _ => exact h3
  | 4, _ => exact h4
  | 5, _ => exact h5
 ·intro h
  exact ⟨h 0 (by omega), h 1 (by omega), h 2 (by omega), h 3 (by omega), h 4 (by omega), h 5 (by omega)⟩
theorem box_load8 (w : World) (b off : Nat) (F : NI) (h : ∀ k, k < 6 -> w.cell? ⟨b, off + k, none⟩ = some (.int .u64 (F k))) : (loadVar 74 ⟨b, off, none⟩).run prog w = .ok (bx6 F) w :=
 zbM w b off _ (bx6a F) _ (fun j v hv => by
  match j, (show j < 6 from (Array.getElem?_eq_some_iff.1 hv).1) with
  | 0, _ => exact (h 0 (by omega)).trans hv
  | 1, _ => exact (h 1 (by omega)).trans hv
  | 2, _ => exact (h 2 (by omega)).trans hv
  | 3, _ => exact (h 3 (by omega)).trans hv
  | 4, _ => exact (h 4 (by omega)).trans hv
  | 5, _ => exact (h 5 (by omega)).trans hv) U74 rfl info_box
theorem stnb {ops : List Oper} {L0 : List Value} {E : List Ent} {R : World -> Prop} {dst : Option Tmp} {ty t2 : TypeId} {pos : String} {after : Array Edge} {guard : Option (Nat × Bool)} {x y : Operand} {r : Bool} (F G : NI) (he : (!(eqb6 F G)) = r) (hg : zao E ⟨dst, .binOp .neq 74 x y t2, ty, pos, after, guard⟩ = some true := by rfl) (hx : ∀ t, Act.eval ⟨(fill ops E t 0 L0).toArray, []⟩ x = bx6 F := by intro _; kernel_rfl) (hy : ∀ t, Act.eval ⟨(fill ops E t 0 L0).toArray, []⟩ y = bx6 G := by intro _; kernel_rfl) : StepT prog ops L0 E R ⟨dst, .binOp .neq 74 x y t2, ty, pos, after, guard⟩ (.k (.bool r)) :=
 stw hg fun t wx hR => by rw [run_neq_box wx _ x y dst ty t2 pos after guard _ _ _ _ _ _ _ _ _ _ _ _ (hx t) (hy t)]; unfold eqb6 at he; rw [he]
end
section
open Go.RowKit
def samB (n m : Nat) (C D : NN) : Bool := decide (n = m) && (List.range n).all fun j => eqb6 (C j) (D j)
theorem zdb {n m : Nat} {C D : NN} : samB n m C D = true ↔ n = m /\ ∀ j, j < n -> ∀ k, k < 6 -> C j k = D j k := by
 unfold samB
 simp only [Bool.and_eq_true_iff, decide_eq_true_eq, List.all_eq_true, List.mem_range, eqb6_iff]
theorem zeY (b1 : OA) (n1 c1 : Nat) (C : NN) (b2 : OA) (n2 c2 : Nat) (D : NN) (w : World) (m1 : n1 <= 9223372036854775807) (h1 : BoxsIn w b1 n1 C) (h2 : BoxsIn w b2 n2 D) :
  Calls prog 17 #[.slice b1 n1 c1, .slice b2 n2 c2] w (Ret w (.bool (samB n1 n2 C D))) := by
 have HX : Hid (BoxsIn w b1 n1 C) := h1
 have HY : Hid (BoxsIn w b2 n2 D) := h2
 clear h1 h2
 by_cases hn : n1 = n2
 ·subst hn
  go_enter func17, ntmps17
  go_wp2_with fail
  go_loopw [5] (fun iv wx => ∃ i : Nat, iv = .int .i64 (i : Int) /\ i <= n1 /\ Hid (Old w wx) /\ Hid (∀ j, j < i -> ∀ k, k < 6 -> C j k = D j k)) (fun iv _ => n1 - (intOf iv).toNat)
  case atStart => exact ⟨0, rfl, Nat.zero_le _, Old.refl _, fun j hj => by omega⟩
  case round =>
   obtain ⟨i, rfl, hi, HO, HJ⟩ := hrel
   by_cases hlt : i < n1
   ·rcases HX.out with h0 | ⟨bx, ox, hqx, _, hrx⟩
    ·omega
    rcases HY.out with h0 | ⟨by_, oy, hqy, _, hry⟩
    ·omega
    have HLx : Hid (∀ wx, Old wr wx -> (loadVar 74 ⟨bx, ox + i * 6, none⟩).run prog wx = .ok (bx6 (C i)) wx) := fun wx ho => box_load8 wx bx _ _ fun k hk => (HO.out.trans ho).cellOf (hrx i hlt k hk).1
    have HLy : Hid (∀ wx, Old wr wx -> (loadVar 74 ⟨by_, oy + i * 6, none⟩).run prog wx = .ok (bx6 (D i)) wx) := fun wx ho => box_load8 wx by_ _ _ fun k hk => (HO.out.trans ho).cellOf (hry i hlt k hk).1
    clear hrx hry
    subst hqx hqy
    cases he : eqb6 (C i) (D i) with
    | true =>
     have HM : Hid (∀ k, k < 6 -> C i k = D i k) := eqb6_iff.1 he
     have HE : Hid ((!(eqb6 (C i) (D i))) = false) := by unfold Hid; rw [he]; rfl
     clear he
     go_upto_region 6 with fail
     refine zaa 9 [.k (.slice (some ⟨bx, ox, none⟩) n1 c1), .k (.int .i64 (i : Int)), .k (.pointer (some ⟨bx, ox + i * 6, none⟩)), .k (bx6 (C i)), .k (.slice (some ⟨by_, oy, none⟩) n1 c2), .k (.int .i64 (i : Int)), .k (.pointer (some ⟨by_, oy + i * 6, none⟩)), .k (bx6 (D i)), .k (.bool false)] (Old wr) (by kernel_rfl) (by kernel_rfl) rfl ((Old.refl _).drew) ?st ?_
     case st =>
      refine .p <| .p <| .c (stj (n := n1) (c := c1) 6 hlt U26) <| .c (stlv HLx.out) <| .p <| .p <| .c (stj (n := n1) (c := c2) 6 hlt U26) <| .c (stlv HLy.out) <| .c (stnb (C i) (D i) HE.out) .n
     intro t wz hR hk
     simp only [fill, Ent.val, zs0, zs1, zd1, zd0, zdn]
     have HO2 : Hid (Old w wz) := HO.out.trans hR
     clear hR hk
     go_wp2_with fail
     go_roundw
     case rel => exact ⟨i + 1, zab i, by omega, HO2, zav HJ.out HM.out⟩
     case measure => simp [intOf]; omega
    | false =>
     have HN : Hid (samB n1 n1 C D = false) := no_of fun hc => by have := eqb6_iff.2 ((zdb.1 hc).2 i hlt); rw [he] at this; cases this
     have HE : Hid ((!(eqb6 (C i) (D i))) = true) := by unfold Hid; rw [he]; rfl
     clear he
     go_upto_region 6 with fail
     refine zaa 9 [.k (.slice (some ⟨bx, ox, none⟩) n1 c1), .k (.int .i64 (i : Int)), .k (.pointer (some ⟨bx, ox + i * 6, none⟩)), .k (bx6 (C i)), .k (.slice (some ⟨by_, oy, none⟩) n1 c2), .k (.int .i64 (i : Int)), .k (.pointer (some ⟨by_, oy + i * 6, none⟩)), .k (bx6 (D i)), .k (.bool true)] (Old wr) (by kernel_rfl) (by kernel_rfl) rfl ((Old.refl _).drew) ?st ?_
     case st =>
      refine .p <| .p <| .c (stj (n := n1) (c := c1) 6 hlt U26) <| .c (stlv HLx.out) <| .p <| .p <| .c (stj (n := n1) (c := c2) 6 hlt U26) <| .c (stlv HLy.out) <| .c (stnb (C i) (D i) HE.out) .n
     intro t wz hR hk
     simp only [fill, Ent.val, zs0, zs1, zd1, zd0, zdn]
     have HO2 : Hid (Old w wz) := HO.out.trans hR
     clear hR hk
     go_wp2_with fail
     go_ret
     exact ⟨zad HN.out.symm, HO2.out⟩
   ·have he : n1 = i := by omega
    subst he
    have HN : Hid (samB n1 n1 C D = true) := zdb.2 ⟨rfl, HJ.out⟩
    go_wp2_with fail
    go_ret
    exact ⟨zad HN.out.symm, HO.out⟩
 ·have HN : Hid (samB n1 n2 C D = false) := no_of fun hc => hn (zdb.1 hc).1
  have k1 : ¬ (n1 : Int) = (n2 : Int) := by omega
  go_enter func17, ntmps17
  go_wp2_with fail
  go_ret
  exact ⟨zad HN.out.symm, Old.refl _⟩
end
section
open Go Go.RowKit
def lookF : List Oper -> List Ent -> (Nat -> Value) -> Nat -> Value -> Nat -> Value
 | o :: os, e :: es, t, i, x, s => lookF os es t (i + 1) (match o.dst with | some d => bif Nat.beq d s then e.val (t i) else x | none => x) s
 | _, _, _, _, x, _ => x
def evL (ops : List Oper) (E : List Ent) (t : Nat -> Value) (L0 : List Value) : Operand -> Value
 | .tmp s => lookF ops E t 0 (L0.getD s undef) s
 | .const v => Act.eval ⟨#[], []⟩ (.const v)
 | .global g => Act.eval ⟨#[], []⟩ (.global g)
 | .func f => Act.eval ⟨#[], []⟩ (.func f)
theorem evL_func {ops : List Oper} {E : List Ent} {t : Nat -> Value} {L0 : List Value} {f : FuncId} : evL ops E t L0 (.func f) = Act.eval ⟨#[], []⟩ (.func f) := rfl
theorem zeE (s : Nat) : ∀ (os : List Oper) (es : List Ent) (t : Nat -> Value) (i : Nat) (L : List Value), (∀ k o d, k < es.length -> os[k]? = some o -> o.dst = some d -> d < L.length) -> (fill os es t i L).getD s undef = lookF os es t i (L.getD s undef) s
 | [], _, _, _, _, _ => by simp [fill, lookF]
 | _ :: _, [], _, _, _, _ => by simp [fill, lookF]
 | o :: os, e :: es, t, i, L, h => by
  unfold fill lookF
  have h0 := h 0 o
  cases hd : o.dst with
  | none => exact zeE s os es t (i + 1) L fun k o' d hk ho hd' => h (k + 1) o' d (by simp; omega) (by simpa using ho) hd'
  | some d =>
   have hdl := h0 d (by simp) rfl hd
   dsimp only
   rw [zeE s os es t (i + 1) (L.set d (e.val (t i))) fun k o' d' hk ho hd' => by
    have := h (k + 1) o' d' (by simp; omega) (by simpa using ho) hd'
    simpa using this]
   congr 1
   cases hb : Nat.beq d s with
   | true =>
    have hds : d = s := Nat.eq_of_beq_eq_true hb
    subst hds
    simp [List.getD, hdl]
   | false =>
    have hds : ¬ d = s := Nat.ne_of_beq_eq_false hb
    simp [List.getD, List.getElem?_set_ne hds]
theorem evL_eq {ops : List Oper} {E : List Ent} {L0 : List Value} (h : ∀ k o d, k < E.length -> ops[k]? = some o -> o.dst = some d -> d < L0.length) (t : Nat -> Value) : Act.eval ⟨(fill ops E t 0 L0).toArray, []⟩ = evL ops E t L0 := by
 funext x
 cases x with
 | tmp s =>
  have := zeE s ops E t 0 L0 h
  show (fill ops E t 0 L0).toArray.getD s undef = lookF ops E t 0 (L0.getD s undef) s
  rw [<- this]
  simp [Array.getD_eq_getD_getElem?]
 | const v => rfl
 | global g => rfl
 | func f => rfl
structure StepTz (P : Program) (ops : List Oper) (L0 : List Value) (E : List Ent) (R : World -> Prop) (o : Oper) (e : Ent) : Prop where
 go : ∀ (t : Nat -> Value) (wx : World), R wx -> (∀ k, needs o k = true -> okAt E k (t k) wx) ->
  match zao E o with
  | some true => PostT P E R e wx ((execOp (evL ops E t L0) o).run P wx)
  | some false => ∀ w, e.ok undef w
  | none => False
def StepsTz (P : Program) (ops : List Oper) (L0 : List Value) (E : List Ent) (R : World -> Prop) : List Oper -> List Ent -> Prop
 | o :: os, e :: es => StepTz P ops L0 E R o e /\ StepsTz P ops L0 E R os es
 | _, [] => True
 | [], _ :: _ => False
theorem StepsTz.c {P : Program} {ops : List Oper} {L0 : List Value} {E : List Ent} {R : World -> Prop} {o : Oper} {os : List Oper} {e : Ent} {es : List Ent} (h : StepTz P ops L0 E R o e) (k : StepsTz P ops L0 E R os es) : StepsTz P ops L0 E R (o :: os) (e :: es) := ⟨h, k⟩
theorem StepsTz.n {P : Program} {ops : List Oper} {L0 : List Value} {E : List Ent} {R : World -> Prop} {os : List Oper} : StepsTz P ops L0 E R os [] := by cases os <;> exact trivial
theorem StepsTz.to {P : Program} {ops : List Oper} {L0 : List Value} {E : List Ent} {R : World -> Prop} (h : ∀ t, Act.eval ⟨(fill ops E t 0 L0).toArray, []⟩ = evL ops E t L0) : ∀ (os : List Oper) (es : List Ent), StepsTz P ops L0 E R os es -> StepsT P ops L0 E R os es
 | o :: os, e :: es, hs => ⟨⟨fun t wx h1 h2 => by rw [h t]; exact hs.1.go t wx h1 h2⟩, StepsTz.to h os es hs.2⟩
 | [], [], _ => trivial
 | _ :: _, [], _ => trivial
 | [], _ :: _, hs => hs.elim
theorem zae {P : Program} {Q : Exit -> Act -> World -> Prop} {id : Nat} {ops : List Oper} {L0 : List Value} {w : World} (n : Nat) (E : List Ent) (R : World -> Prop) (hm : P.follows .mixedOrders = true) (hc : ze8 ops n L0.length = true) (hE : E.length = n) (start : R w.drew) (steps : StepsTz P ops L0 E R ops E)
  (fin : ∀ (t : Nat -> Value) (wx : World), R wx -> (∀ k, k < n -> okAt E k (t k) wx) -> wpList P ops.toArray Q (ops.drop n) ⟨(fill ops E t 0 L0).toArray, []⟩ wx) : (Code.region id ops.toArray true).wp P Q ⟨L0.toArray, []⟩ w := by
 refine zaa n E R hm hc hE start (StepsTz.to (evL_eq fun k o d hk ho hd => ?_) ops E steps) fin
 unfold ze8 at hc
 simp only [Bool.and_eq_true, decide_eq_true_eq, List.all_eq_true, List.mem_range] at hc
 have := hc.2 k (by omega)
 rw [ho] at this
 dsimp only at this
 unfold opChk at this
 rw [hd] at this
 simp only [Bool.and_eq_true, decide_eq_true_eq] at this
 exact this.1.1.2.1
section
variable {P : Program} {ops : List Oper} {L0 : List Value} {E : List Ent} {R : World -> Prop} {o : Oper} {e : Ent}
theorem stpz {v : Value} (hg : zao E o = some true := by rfl) (h : ∀ (t : Nat -> Value) (wx : World), (execOp (evL ops E t L0) o).run P wx = .ok (.value v) wx := by intro _ _; kernel_rfl) : StepTz P ops L0 E R o (.k v) := by
 refine ⟨fun t wx hR _ => ?_⟩
 rw [hg]
 dsimp only
 rw [h t wx]
 exact ⟨hR, fun _ _ h => h, rfl⟩
theorem stvz {v' v : Value} (he : v' = v) (hg : zao E o = some true := by rfl) (h : ∀ (t : Nat -> Value) (wx : World), (execOp (evL ops E t L0) o).run P wx = .ok (.value v') wx := by intro _ _; kernel_rfl) : StepTz P ops L0 E R o (.k v) := by
 subst he
 exact stpz hg h
theorem stwz {v : Value} (hg : zao E o = some true) (h : ∀ (t : Nat -> Value) (wx : World), R wx -> (execOp (evL ops E t L0) o).run P wx = .ok (.value v) wx) : StepTz P ops L0 E R o (.k v) := by
 refine ⟨fun t wx hR _ => ?_⟩
 rw [hg]
 dsimp only
 rw [h t wx hR]
 exact ⟨hR, fun _ _ h => h, rfl⟩
theorem stkz {f : FuncId} {args : Array Value} {v : Value} (hg : zao E o = some true) (hR : ∀ w w', R w -> Old w w' -> R w') (hx : ∀ (t : Nat -> Value) (wx : World), (execOp (evL ops E t L0) o).run P wx = .ok (.enter f args) wx)
  (h : ∀ (wx : World), R wx -> Calls P f args wx fun r w' => r = .returned v /\ Old wx w') : StepTz P ops L0 E R o (.k v) := by
 refine ⟨fun t wx hRx _ => ?_⟩
 rw [hg]
 dsimp only
 rw [hx t wx]
 exact (h wx hRx).mono fun r w' ⟨hr, ho⟩ => ⟨v, hr, ResT.old hR hRx ho rfl⟩
theorem stmz {ob : (Nat -> Value) -> Obj} {v : Nat -> Value} (hR : ∀ w w', R w -> Old w w' -> R w') (h : ∀ (t : Nat -> Value) (wx : World), R wx -> (∀ k, needs o k = true -> okAt E k (t k) wx) -> e.ok (v wx.heap.size) (wx.alloc (ob t))) (hg : zao E o = some true := by rfl) (hx : ∀ (t : Nat -> Value) (wx : World), (execOp (evL ops E t L0) o).run P wx = .ok (.value (v wx.heap.size)) (wx.alloc (ob t)) := by intro _ _; kernel_rfl) : StepTz P ops L0 E R o e := by
 refine ⟨fun t wx hRx hd => ?_⟩
 rw [hg]
 dsimp only
 rw [hx t wx]
 exact ResT.old hR hRx ((Old.refl _).alloc _) (h t wx hRx hd)
theorem run_enterz {t : Nat -> Value} {w : World} {f : FuncId} {fn : Func} {c : Code} {oas : Array Operand} {tys : Array TypeId} {dst : Option Tmp} {ty : TypeId} {pos : String} {after : Array Edge} {guard : Option (Nat × Bool)} (hf : P.funcs[f]? = some fn) (hn : (fn.name == "runtime.NumGoroutine") = false) (hb : fn.body = some c) : (execOp (evL ops E t L0) ⟨dst, .call ⟨.value (.func f), oas, tys⟩, ty, pos, after, guard⟩).run P w = .ok (.enter f (oas.map (evL ops E t L0))) w := by
 have h1 : ¬ fn.name = "runtime.NumGoroutine" := by simpa using hn
 simp [execOp, evL_func, callFunc, hf, h1, hb, go_sem]
section
variable {dst : Option Tmp} {ty : TypeId} {pos : String} {after : Array Edge} {guard : Option (Nat × Bool)} {T : TypeId} {x : Operand} {d : TypeDesc}
theorem stlz {p : Addr} {v : Value} (hu : P.underlying T = some d) (hc : ∀ wx, R wx -> wx.cell? p = some v) (hg : zao E ⟨dst, .load T x, ty, pos, after, guard⟩ = some true := by rfl) (hd : aggD d = false := by rfl) (hx : ∀ t, evL ops E t L0 x = .pointer (some p) := by intro _; kernel_rfl) : StepTz P ops L0 E R ⟨dst, .load T x, ty, pos, after, guard⟩ (.k v) := by
 refine stwz hg fun t wx hR => ?_
 have hag : (isAgg T).run P wx = .ok false wx := by
  unfold isAgg
  rw [Sem.run_bind, run_underlying hu wx]
  cases d <;> simp_all [aggD]
 simp only [execOp, hx t, Instr.loadAt, Instr.sureAddr, loadVar, Sem.run_bind, Sem.run_pure, Result.andThen_ok, hag]
 simp [hc wx hR]
theorem stsz {b : Nat} {cs : Array Value} {tb : TypeId} (hu : P.underlying T = some d) (hc : ∀ wx, R wx -> wx.heap[b]? = some (.cells cs tb (0, 0))) (hg : zao E ⟨dst, .load T x, ty, pos, after, guard⟩ = some true := by rfl) (hd : aggD d = true := by rfl) (hi : (P.info? T).map (·.size) = some cs.size := by kernel_rfl) (hx : ∀ t, evL ops E t L0 x = .pointer (some ⟨b, 0, none⟩) := by intro _; kernel_rfl) : StepTz P ops L0 E R ⟨dst, .load T x, ty, pos, after, guard⟩ (.k (.agg cs)) := by
 refine stwz hg fun t wx hR => ?_
 simp only [execOp, hx t, Instr.loadAt, Instr.sureAddr, Sem.run_bind, Sem.run_pure, Result.andThen_ok, run_loadVar_row wx b tb T cs (0, 0) d (hc wx hR) hu (by cases d <;> simp_all [aggD]) hi]
theorem stfz {b : Nat} {cs : Array Value} {tb : TypeId} {v : Value} (j : Nat) (hu : P.underlying T = some d) (hc : ∀ wx, R wx -> wx.heap[b]? = some (.cells cs tb (0, 0))) (hg : zao E ⟨dst, .load T x, ty, pos, after, guard⟩ = some true := by rfl) (hd : aggD d = false := by rfl) (hx : ∀ t, evL ops E t L0 x = .pointer (some ⟨b, j, none⟩) := by intro _; kernel_rfl) (hv : cs[j]? = some v := by rfl) : StepTz P ops L0 E R ⟨dst, .load T x, ty, pos, after, guard⟩ (.k v) :=
 stlz hu (fun wx hR => (cell_of_row _ _ j _ _ (0, 0) (hc wx hR)).trans hv) hg hd hx
end
theorem stjz {dst : Option Tmp} {ty : TypeId} {pos : String} {after : Array Edge} {guard : Option (Nat × Bool)} {T e : TypeId} {x ix : Operand} {b off n c i : Nat} (sz : Nat) (hi : i < n) (hu : P.underlying T = some (.slice e)) (hs : (P.info? e).map (·.size) = some sz := by kernel_rfl) (hg : zao E ⟨dst, .indexAddr T x ix, ty, pos, after, guard⟩ = some true := by rfl) (hx : ∀ t, evL ops E t L0 x = .slice (some ⟨b, off, none⟩) n c := by intro _; kernel_rfl) (hix : ∀ t, evL ops E t L0 ix = .int .i64 (i : Int) := by intro _; kernel_rfl) : StepTz P ops L0 E R ⟨dst, .indexAddr T x ix, ty, pos, after, guard⟩ (.k (.pointer (some ⟨b, off + i * sz, none⟩))) := by
 refine stwz hg fun t wx _ => ?_
 obtain ⟨z, h1, h2⟩ := Option.map_eq_some_iff.1 hs
 simp only [execOp, hx t, hix t]
 simp [Instr.indexAt, run_underlying hu, asIntOf, sizeOf, typeInfo, h1, h2, hi, go_sem]
theorem stiz {dst : Option Tmp} {ty : TypeId} {pos : String} {after : Array Edge} {guard : Option (Nat × Bool)} {T e : TypeId} {x ix : Operand} {b off n c i : Nat} (hi : i < n) (hu : P.underlying T = some (.slice e)) (hs : (P.info? e).map (·.size) = some 1 := by kernel_rfl) (hg : zao E ⟨dst, .indexAddr T x ix, ty, pos, after, guard⟩ = some true := by rfl) (hx : ∀ t, evL ops E t L0 x = .slice (some ⟨b, off, none⟩) n c := by intro _; kernel_rfl) (hix : ∀ t, evL ops E t L0 ix = .int .i64 (i : Int) := by intro _; kernel_rfl) : StepTz P ops L0 E R ⟨dst, .indexAddr T x ix, ty, pos, after, guard⟩ (.k (.pointer (some ⟨b, off + i, none⟩))) := by
 have h := stjz (P := P) (R := R) 1 hi hu hs hg hx hix
 rwa [Nat.mul_one] at h
theorem sti0z {dst : Option Tmp} {ty : TypeId} {pos : String} {after : Array Edge} {guard : Option (Nat × Bool)} {T e : TypeId} {x ix : Operand} {b n c i : Nat} (hi : i < n) (hu : P.underlying T = some (.slice e)) (hs : (P.info? e).map (·.size) = some 1 := by kernel_rfl) (hg : zao E ⟨dst, .indexAddr T x ix, ty, pos, after, guard⟩ = some true := by rfl) (hx : ∀ t, evL ops E t L0 x = .slice (some ⟨b, 0, none⟩) n c := by intro _; kernel_rfl) (hix : ∀ t, evL ops E t L0 ix = .int .i64 (i : Int) := by intro _; kernel_rfl) : StepTz P ops L0 E R ⟨dst, .indexAddr T x ix, ty, pos, after, guard⟩ (.k (.pointer (some ⟨b, i, none⟩))) := by
 have h := stiz (P := P) (R := R) hi hu hs hg hx hix
 rwa [Nat.zero_add] at h
theorem sajz {dst : Option Tmp} {ty : TypeId} {pos : String} {after : Array Edge} {guard : Option (Nat × Bool)} {T e : TypeId} {x ix : Operand} {b off n i : Nat} (sz : Nat) (hi : i < n) (hu : P.underlying T = some (.array n e)) (hs : (P.info? e).map (·.size) = some sz := by kernel_rfl) (hg : zao E ⟨dst, .indexAddr T x ix, ty, pos, after, guard⟩ = some true := by rfl) (hx : ∀ t, evL ops E t L0 x = .pointer (some ⟨b, off, none⟩) := by intro _; kernel_rfl) (hix : ∀ t, evL ops E t L0 ix = .int .i64 (i : Int) := by intro _; kernel_rfl) : StepTz P ops L0 E R ⟨dst, .indexAddr T x ix, ty, pos, after, guard⟩ (.k (.pointer (some ⟨b, off + i * sz, none⟩))) := by
 refine stwz hg fun t wx _ => ?_
 obtain ⟨z, h1, h2⟩ := Option.map_eq_some_iff.1 hs
 simp only [execOp, hx t, hix t]
 simp [Instr.indexAt, Instr.sureAddr, run_underlying hu, asIntOf, sizeOf, typeInfo, h1, h2, hi, go_sem]
theorem saiz {dst : Option Tmp} {ty : TypeId} {pos : String} {after : Array Edge} {guard : Option (Nat × Bool)} {T e : TypeId} {x ix : Operand} {b off n i : Nat} (hi : i < n) (hu : P.underlying T = some (.array n e)) (hs : (P.info? e).map (·.size) = some 1 := by kernel_rfl) (hg : zao E ⟨dst, .indexAddr T x ix, ty, pos, after, guard⟩ = some true := by rfl) (hx : ∀ t, evL ops E t L0 x = .pointer (some ⟨b, off, none⟩) := by intro _; kernel_rfl) (hix : ∀ t, evL ops E t L0 ix = .int .i64 (i : Int) := by intro _; kernel_rfl) : StepTz P ops L0 E R ⟨dst, .indexAddr T x ix, ty, pos, after, guard⟩ (.k (.pointer (some ⟨b, off + i, none⟩))) := by
 have h := sajz (P := P) (R := R) 1 hi hu hs hg hx hix
 rwa [Nat.mul_one] at h
theorem stSz {dst : Option Tmp} {ty : TypeId} {pos : String} {after : Array Edge} {guard : Option (Nat × Bool)} {T : TypeId} {x y : Operand} {p : Addr} {v : Value} {e : Ent} (h :  ∀ (t : Nat -> Value) (wx : World), R wx -> (∃ o, wx.cell? p = some o) /\ wx.frozen? p = false /\ ResT E R e wx undef (wx.setCell p v)) (h1 : v.cells = #[v] := by rfl) (h2 : v.oneCell' = true := by rfl) (hs : (P.info? T).map (·.size) = some 1 := by kernel_rfl) (hg : zao E ⟨dst, .store T x y, ty, pos, after, guard⟩ = some true := by rfl) (hx : ∀ t, evL ops E t L0 x = .pointer (some p) := by intro _; kernel_rfl) (hy : ∀ t, evL ops E t L0 y = v := by intro _; kernel_rfl) : StepTz P ops L0 E R ⟨dst, .store T x y, ty, pos, after, guard⟩ e := by
 refine ⟨fun t wx hR _ => ?_⟩
 obtain ⟨⟨o, ho⟩, hf, hres⟩ := h t wx hR
 obtain ⟨z, hz1, hz2⟩ := Option.map_eq_some_iff.1 hs
 have hadd : p.add 0 = p := by simp [Addr.add]
 have hrun : (execOp (evL ops E t L0) ⟨dst, .store T x y, ty, pos, after, guard⟩).run P wx = .ok .skip (wx.setCell p v) := by
  simp only [execOp, hx t, hy t, Instr.storeAt, Instr.sureAddr, storeVar, h1]
  simp [storeCells, sizeOf, typeInfo, hz1, hz2, hadd, run_store _ _ _ _ _ h2, ho, hf, go_sem]
 rw [hg]
 dsimp only
 rw [hrun]
 exact hres
theorem stKz {f : FuncId} {fn : Func} {c : Code} {oas : Array Operand} {tys : Array TypeId} {dst : Option Tmp} {ty : TypeId} {pos : String} {after : Array Edge} {guard : Option (Nat × Bool)} {args : Array Value} {v : Value} (hR : ∀ w w', R w -> Old w w' -> R w') (hf : P.funcs[f]? = some fn) (h : ∀ (wx : World), R wx -> Calls P f args wx fun r w' => r = .returned v /\ Old wx w') (hg : zao E ⟨dst, .call ⟨.value (.func f), oas, tys⟩, ty, pos, after, guard⟩ = some true := by rfl) (hn : (fn.name == "runtime.NumGoroutine") = false := by decide) (hb : fn.body = some c := by rfl) (hx : ∀ t, oas.map (evL ops E t L0) = args := by intro _; kernel_rfl) : StepTz P ops L0 E R ⟨dst, .call ⟨.value (.func f), oas, tys⟩, ty, pos, after, guard⟩ (.k v) :=
 stkz hg hR (fun t wx => by rw [run_enterz hf hn hb, hx t]) h
end
end
section
open Go Go.RowKit
section
variable {P : Program} {ops : List Oper} {L0 : List Value} {E : List Ent} {R : World -> Prop} {o : Oper} {e : Ent}
theorem strz {dst : Option Tmp} {ty : TypeId} {pos : String} {after : Array Edge} {guard : Option (Nat × Bool)} {T T' : TypeId} {x y : Operand} {a b : Int} (ha : 0 <= a) (hb : 0 < b) (hg : zao E ⟨dst, .binOp .rem T x y T', ty, pos, after, guard⟩ = some true := by rfl) (hx : ∀ t, evL ops E t L0 x = .int .u64 a := by intro _; kernel_rfl) (hy : ∀ t, evL ops E t L0 y = .int .u64 b := by intro _; kernel_rfl) : StepTz P ops L0 E R ⟨dst, .binOp .rem T x y T', ty, pos, after, guard⟩ (.k (.int .u64 (a % b))) := by
 refine stwz hg fun t wx _ => ?_
 have h1 : ¬ b = 0 := by omega
 have h2 : a.tmod b = a % b := Int.tmod_eq_emod_of_nonneg ha
 simp only [execOp, hx t, hy t]
 simp [eqGuard, binOp, Op.intDiv, h1, h2, go_sem]
end
def eI (E : NI) (Rr : NN) (n i : Nat) : Nat -> Int := fun k =>
 if k < n then (if k < i then E k else 0)
 else if k < 2 * n then (if k - n < i then E k else 0)
 else if k < 3 * n then (if k - 2 * n < i then E k else 0)
 else if k < 4 * n then (if k - 3 * n < i then E k else 0)
 else if k < 5 * n then (if k - 4 * n < i then E k else 0)
 else if k < 6 * n then (if k - 5 * n < i then E k else 0)
 else if k < 7 * n - 1 then (if k - 6 * n + 1 < i then E k else 0)
 else if k < 7 * n then 0
 else Rr (k - 7 * n) i
def sett8 (F : NI) (p : Nat) (x : Int) : Nat -> Int := fun k => if k = p then x else F k
def midI (E : NI) (Rr : NN) (n i : Nat) : Nat -> Int := sett8 (sett8 (sett8 (sett8 (sett8 (sett8 (eI E Rr n i) i (E i)) (n + i) (E (n + i))) (2 * n + i) (E (2 * n + i))) (3 * n + i) (E (3 * n + i))) (4 * n + i) (E (4 * n + i))) (5 * n + i) (E (5 * n + i))
def eH (E : NI) (Rr : NN) (n i c : Nat) : Nat -> Int := fun k => if k < 7 * n then eI E Rr n (i + 1) k else if k < 7 * n + c then Rr (k - 7 * n) (i + 1) else Rr (k - 7 * n) i
section
variable {E : NI} {Rr : NN} {n i k : Nat}
theorem eI_last (h7 : ¬ k < 7 * n) : eI E Rr n i k = Rr (k - 7 * n) i := by
 unfold eI
 rw [if_neg (by omega), if_neg (by omega), if_neg (by omega), if_neg (by omega), if_neg (by omega), if_neg (by omega), if_neg (by omega), if_neg (by omega)]
theorem eI_same (h0 : k ≠ i) (h1 : k ≠ n + i) (h2 : k ≠ 2 * n + i) (h3 : k ≠ 3 * n + i) (h4 : k ≠ 4 * n + i) (h5 : k ≠ 5 * n + i) (h6 : 6 * n <= k -> k - 6 * n + 1 ≠ i) (h7 : k < 7 * n) : eI E Rr n i k = eI E Rr n (i + 1) k := by
 have hs : ∀ (p : Nat) (x : Int), p ≠ i -> (if p < i then x else 0) = (if p < i + 1 then x else 0) := fun p x hp => by
  by_cases h : p < i
  ·rw [if_pos h, if_pos (by omega)]
  ·rw [if_neg h, if_neg (by omega)]
 unfold eI
 by_cases c1 : k < n
 ·rw [if_pos c1, if_pos c1, hs k _ h0]
 rw [if_neg c1, if_neg c1]
 by_cases c2 : k < 2 * n
 ·rw [if_pos c2, if_pos c2, hs _ _ (by omega)]
 rw [if_neg c2, if_neg c2]
 by_cases c3 : k < 3 * n
 ·rw [if_pos c3, if_pos c3, hs _ _ (by omega)]
 rw [if_neg c3, if_neg c3]
 by_cases c4 : k < 4 * n
 ·rw [if_pos c4, if_pos c4, hs _ _ (by omega)]
 rw [if_neg c4, if_neg c4]
 by_cases c5 : k < 5 * n
 ·rw [if_pos c5, if_pos c5, hs _ _ (by omega)]
 rw [if_neg c5, if_neg c5]
 by_cases c6 : k < 6 * n
 ·rw [if_pos c6, if_pos c6, hs _ _ (by omega)]
 rw [if_neg c6, if_neg c6]
 by_cases c7 : k < 7 * n - 1
 ·rw [if_pos c7, if_pos c7, hs _ _ (h6 (by omega))]
 rw [if_neg c7, if_neg c7, if_pos h7, if_pos h7]
theorem eI_new (hi : i < n) : eI E Rr n (i + 1) i = E i /\ eI E Rr n (i + 1) (n + i) = E (n + i) /\ eI E Rr n (i + 1) (2 * n + i) = E (2 * n + i) /\ eI E Rr n (i + 1) (3 * n + i) = E (3 * n + i) /\ eI E Rr n (i + 1) (4 * n + i) = E (4 * n + i) /\ eI E Rr n (i + 1) (5 * n + i) = E (5 * n + i) /\ (0 < i -> eI E Rr n (i + 1) (6 * n + i - 1) = E (6 * n + i - 1)) := by
 unfold eI
 refine ⟨?_, ?_, ?_, ?_, ?_, ?_, fun h0 => ?_⟩
 ·rw [if_pos hi, if_pos (by omega)]
 ·rw [if_neg (by omega), if_pos (by omega), if_pos (by omega)]
 ·rw [if_neg (by omega), if_neg (by omega), if_pos (by omega), if_pos (by omega)]
 ·rw [if_neg (by omega), if_neg (by omega), if_neg (by omega), if_pos (by omega), if_pos (by omega)]
 ·rw [if_neg (by omega), if_neg (by omega), if_neg (by omega), if_neg (by omega), if_pos (by omega), if_pos (by omega)]
 ·rw [if_neg (by omega), if_neg (by omega), if_neg (by omega), if_neg (by omega), if_neg (by omega), if_pos (by omega), if_pos (by omega)]
 ·rw [if_neg (by omega), if_neg (by omega), if_neg (by omega), if_neg (by omega), if_neg (by omega), if_neg (by omega), if_pos (by omega), if_pos (by omega)]
theorem midI_at (hi : i < n) (h6 : k < 7 * n -> 6 * n <= k -> k - 6 * n + 1 ≠ i) : midI E Rr n i k = eH E Rr n i 0 k := by
 obtain ⟨a0, a1, a2, a3, a4, a5, _⟩ := eI_new (E := E) (Rr := Rr) hi
 unfold midI eH sett8
 by_cases c5 : k = 5 * n + i
 ·subst c5; rw [if_pos rfl, if_pos (by omega), a5]
 rw [if_neg c5]
 by_cases c4 : k = 4 * n + i
 ·subst c4; rw [if_pos rfl, if_pos (by omega), a4]
 rw [if_neg c4]
 by_cases c3 : k = 3 * n + i
 ·subst c3; rw [if_pos rfl, if_pos (by omega), a3]
 rw [if_neg c3]
 by_cases c2 : k = 2 * n + i
 ·subst c2; rw [if_pos rfl, if_pos (by omega), a2]
 rw [if_neg c2]
 by_cases c1 : k = n + i
 ·subst c1; rw [if_pos rfl, if_pos (by omega), a1]
 rw [if_neg c1]
 by_cases c0 : k = i
 ·subst c0; rw [if_pos rfl, if_pos (by omega), a0]
 rw [if_neg c0]
 by_cases h7 : k < 7 * n
 ·rw [if_pos h7]
  exact eI_same c0 c1 c2 c3 c4 c5 (h6 h7) h7
 ·rw [if_neg h7, if_neg (by omega), eI_last h7]
theorem midI_zero (hn : 0 < n) : midI E Rr n 0 k = eH E Rr n 0 0 k := midI_at hn fun _ h => by omega
theorem midI_pos (hi : i < n) (h0 : 0 < i) : sett8 (midI E Rr n i) (6 * n + i - 1) (E (6 * n + i - 1)) k = eH E Rr n i 0 k := by
 by_cases c6 : k = 6 * n + i - 1
 ·subst c6
  unfold sett8 eH
  rw [if_pos rfl, if_pos (by omega), (eI_new (E := E) (Rr := Rr) hi).2.2.2.2.2.2 h0]
 ·show (if k = 6 * n + i - 1 then _ else midI E Rr n i k) = _
  rw [if_neg c6]
  exact midI_at hi fun _ _ => by omega
theorem eH_next {c : Nat} : sett8 (eH E Rr n i c) (7 * n + c) (Rr c (i + 1)) k = eH E Rr n i (c + 1) k := by
 unfold sett8 eH
 by_cases h : k = 7 * n + c
 ·subst h
  rw [if_pos rfl, if_neg (by omega), if_pos (by omega), show 7 * n + c - 7 * n = c by omega]
 ·rw [if_neg h]
  by_cases h7 : k < 7 * n
  ·rw [if_pos h7, if_pos h7]
  ·rw [if_neg h7, if_neg h7]
   by_cases h8 : k < 7 * n + c
   ·rw [if_pos h8, if_pos (by omega)]
   ·rw [if_neg h8, if_neg (by omega)]
theorem eH_at {c : Nat} : eH E Rr n i c (7 * n + c) = Rr c i := by
 unfold eH
 rw [if_neg (by omega), if_neg (by omega), show 7 * n + c - 7 * n = c by omega]
theorem eH_done (hk : k < 7 * n + 3) : eH E Rr n i 3 k = eI E Rr n (i + 1) k := by
 unfold eH
 by_cases h7 : k < 7 * n
 ·rw [if_pos h7]
 ·rw [if_neg h7, if_pos hk, eI_last h7]
theorem eI_zero (hR : ∀ w, Rr w 0 = 0) : eI E Rr n 0 k = 0 := by
 by_cases h7 : k < 7 * n
 ·unfold eI
  simp only [Nat.not_lt_zero, if_false, if_pos h7, ite_self]
 ·rw [eI_last h7, hR]
theorem eI_done (hn : 0 < n) (hE : ∀ w, w < 3 -> Rr w n = E (7 * n + w)) (hk : k < 7 * n + 3) : sett8 (eI E Rr n n) (7 * n - 1) (E (7 * n - 1)) k = E k := by
 unfold sett8
 by_cases h : k = 7 * n - 1
 ·subst h; rw [if_pos rfl]
 rw [if_neg h]
 by_cases h7 : k < 7 * n
 ·unfold eI
  by_cases c1 : k < n
  ·rw [if_pos c1, if_pos c1]
  rw [if_neg c1]
  by_cases c2 : k < 2 * n
  ·rw [if_pos c2, if_pos (by omega)]
  rw [if_neg c2]
  by_cases c3 : k < 3 * n
  ·rw [if_pos c3, if_pos (by omega)]
  rw [if_neg c3]
  by_cases c4 : k < 4 * n
  ·rw [if_pos c4, if_pos (by omega)]
  rw [if_neg c4]
  by_cases c5 : k < 5 * n
  ·rw [if_pos c5, if_pos (by omega)]
  rw [if_neg c5]
  by_cases c6 : k < 6 * n
  ·rw [if_pos c6, if_pos (by omega)]
  rw [if_neg c6, if_pos (by omega), if_pos (by omega)]
 ·rw [eI_last h7, hE _ (by omega), show 7 * n + (k - 7 * n) = k by omega]
end
theorem exF_at {Q X Y Z : Int} {n : Nat} {o : Nat -> Nat} {R S T : NI} {Rho : NN} {i : Nat} (hi : i < n) : exF Q X Y Z n o R S T Rho i = ((o i : Int) + 1) % Q /\ exF Q X Y Z n o R S T Rho (n + i) = R i % Q /\ exF Q X Y Z n o R S T Rho (2 * n + i) = bE Q X o i /\ exF Q X Y Z n o R S T Rho (3 * n + i) = S i % Q /\ exF Q X Y Z n o R S T Rho (4 * n + i) = dE Q X Y Z o i /\ exF Q X Y Z n o R S T Rho (5 * n + i) = uE Q Y R S i /\ (0 < i -> exF Q X Y Z n o R S T Rho (6 * n + i - 1) = T i % Q) := by
 unfold exF
 refine ⟨?_, ?_, ?_, ?_, ?_, ?_, fun h0 => ?_⟩
 ·rw [if_pos hi]
 ·rw [if_neg (by omega), if_pos (by omega), show n + i - n = i by omega]
 ·rw [if_neg (by omega), if_neg (by omega), if_pos (by omega), show 2 * n + i - 2 * n = i by omega]
 ·rw [if_neg (by omega), if_neg (by omega), if_neg (by omega), if_pos (by omega), show 3 * n + i - 3 * n = i by omega]
 ·rw [if_neg (by omega), if_neg (by omega), if_neg (by omega), if_neg (by omega), if_pos (by omega), show 4 * n + i - 4 * n = i by omega]
 ·rw [if_neg (by omega), if_neg (by omega), if_neg (by omega), if_neg (by omega), if_neg (by omega), if_pos (by omega), show 5 * n + i - 5 * n = i by omega]
 ·rw [if_neg (by omega), if_neg (by omega), if_neg (by omega), if_neg (by omega), if_neg (by omega), if_neg (by omega), if_pos (by omega), show 6 * n + i - 1 - 6 * n + 1 = i by omega]
theorem exF_end {Q X Y Z : Int} {n : Nat} {o : Nat -> Nat} {R S T : NI} {Rho : NN} (hn : 0 < n) : exF Q X Y Z n o R S T Rho (7 * n - 1) = vE Q X Y Z o R S T (n - 1) /\ ∀ w, w < 3 -> rhoE Q X o Rho w n = exF Q X Y Z n o R S T Rho (7 * n + w) := by
 unfold exF
 refine ⟨?_, fun w hw => ?_⟩
 ·rw [if_neg (by omega), if_neg (by omega), if_neg (by omega), if_neg (by omega), if_neg (by omega), if_neg (by omega), if_neg (by omega), if_pos rfl]
 ·rw [if_neg (by omega), if_neg (by omega), if_neg (by omega), if_neg (by omega), if_neg (by omega), if_neg (by omega), if_neg (by omega), if_neg (by omega), show 7 * n + w - 7 * n = w by omega]
def vP (Q X Y Z : Int) (o : Nat -> Nat) (R S T : NI) : Nat -> Int
 | 0 => 0
 | i + 1 => vE Q X Y Z o R S T i
theorem vP_next {Q X Y Z : Int} {o : Nat -> Nat} {R S T : NI} : ∀ {i : Nat}, 0 < i -> vP Q X Y Z o R S T (i + 1) = addI (mulI (vP Q X Y Z o R S T i) (dE Q X Y Z o i) Q) (T i) Q
 | 0, h => absurd h (Nat.lt_irrefl 0)
 | i + 1, _ => rfl
end
section
open Go Go.RowKit
structure ClV (W : World) (s N : Nat) (T : NI) (Bs : NN) (i k : Nat) (v u : Value) (bk : Nat -> Nat) (w : World) : Prop where
 ly : Ly W s N [] T Bs i k v u bk w
 row : w.heap[s]? = some (.cells #[v, u] 50 (0, 0))
structure Fr (s k : Nat) (v u : Value) (bk : Nat -> Nat) (b : Nat) : Prop where
 v : v.ownBlock ≠ some b
 u : u.ownBlock ≠ some b
 k : ∀ j, j < k -> bk j ≠ b
 s : s + 1 <= b
def ClY (W : World) (s N : Nat) (T : NI) (Bs : NN) (k : Nat) (w : World) : Prop := ∃ v u bk, ClV W s N T Bs k k v u bk w
section
variable {W w w' : World} {s N : Nat} {T : NI} {Bs : NN} {i k : Nat} {v u : Value} {bk : Nat -> Nat} {b : Nat} {F : NI}
theorem ClV.old' (h : ClV W s N T Bs i k v u bk w) (ho : Old w w') : ClV W s N T Bs i k v u bk w' := ⟨h.ly.old' ho, (ho.block _ h.ly.big).trans h.row⟩
theorem ClY.old' (h : ClY W s N T Bs k w) (ho : Old w w') : ClY W s N T Bs k w' := let ⟨v, u, bk, h⟩ := h; ⟨v, u, bk, h.old' ho⟩
theorem ClY.old (h : ClY W s N T Bs k w) : Old W w := let ⟨_, _, _, h⟩ := h; h.ly.old
theorem ClV.y (h : ClV W s N T Bs k k v u bk w) : ClY W s N T Bs k w := ⟨v, u, bk, h⟩
theorem ClV.fr (h : ClV W s N T Bs i k v u bk w) (hb : w.heap.size <= b) : Fr s k v u bk b := by
 refine ⟨fun he => ?_, fun he => ?_, fun j hj he => ?_, ?_⟩
 ·have := (World.ownsRow.lt h.ly.nums b he).2; omega
 ·have := (World.ownsRow.lt h.ly.own b he).2; omega
 ·have := (h.ly.full j hj).2.lt; omega
 ·have := h.ly.big; omega
theorem ClV.c0 (h : ClV W s N T Bs i k v u bk w) : w.cell? ⟨s, 0, none⟩ = some v := Y0 h.row
theorem ClV.c1 (h : ClV W s N T Bs i k v u bk w) : w.cell? ⟨s, 1, none⟩ = some u := Y1 h.row
theorem Ly.tgtn {m g cap : Nat} (h : Ly W s N [] T Bs i k v u bk w) (hown : w'.ownsRow (s + 1) 22 1 (.slice (some ⟨g, 0, none⟩) (i + m) cap) (i + m) ((List.range (i + m)).map (fun j => Value.int .u64 (T j)))) (hg : w.grownBy w' v.ownBlock) (hat : v.ownBlock = some g ∨ g = w.heap.size) : Ly W s N [] T Bs (i + m) k (.slice (some ⟨g, 0, none⟩) (i + m) cap) u bk w' := by
 have hu := World.ownsRow.lt h.own
 refine ⟨h.old.grown hg fun b hb => ?_, h.ws, Nat.le_trans h.big hg.size, hown, h.own.kept hg ?_, fun j hj => ⟨(h.full j hj).1, (h.full j hj).2.grown hg (h.s1 j hj)⟩, h.inj, fun j hj he => ?_, h.s2, Or.inr fun he => ?_, fun e he => absurd he (by simp)⟩
 ·have := (World.ownsRow.lt h.nums b hb).1; have := h.ws; omega
 ·rcases h.s3 with h3 | h3
  ·rw [h3]; cases hx : u.ownBlock
   ·exact Or.inl rfl
   ·exact Or.inr (by simp)
  ·exact Or.inr h3
 ·have he' : g = bk j := by simpa [Value.ownBlock] using he
  rcases hat with h1 | h1
  ·exact h.s1 j hj (by rw [h1, he'])
  ·have := (h.full j hj).2.lt; omega
 ·have he' : u.ownBlock = some g := he
  rcases hat with h1 | h1
  ·rcases h.s3 with h3 | h3
   ·rw [h3] at h1; cases h1
   ·exact h3 (by rw [he', h1])
  ·have := (hu g he').2; omega
theorem ClV.tgtn {m g cap : Nat} (h : ClV W s N T Bs i k v u bk w) (hown : w'.ownsRow (s + 1) 22 1 (.slice (some ⟨g, 0, none⟩) (i + m) cap) (i + m) ((List.range (i + m)).map (fun j => Value.int .u64 (T j)))) (hg : w.grownBy w' v.ownBlock) (hat : v.ownBlock = some g ∨ g = w.heap.size) :
  w'.cell? ⟨s, 0, none⟩ = some v /\ w'.frozen? ⟨s, 0, none⟩ = false /\ ClV W s N T Bs (i + m) k (.slice (some ⟨g, 0, none⟩) (i + m) cap) u bk (w'.setCell ⟨s, 0, none⟩ (.slice (some ⟨g, 0, none⟩) (i + m) cap)) := by
 have hr : w'.heap[s]? = some (.cells #[v, u] 50 (0, 0)) := by
  rw [hg.block s (by have := h.ly.big; omega) (fun e => by have := (World.ownsRow.lt h.ly.nums _ e.symm).1; omega)]
  exact h.row
 refine ⟨Y0 hr, zac hr 0, (h.ly.tgtn hown hg hat).set 0 _, ?_⟩
 have := zaq hr 0 (.slice (some ⟨g, 0, none⟩) (i + m) cap)
 simpa using this
theorem Fr.tgt {n m g cap : Nat} (h : Fr s k v u bk b) (hg : w.grownBy w' v.ownBlock) (hat : v.ownBlock = some g ∨ g = w.heap.size) (hF : Full w b n F) : Fr s k (.slice (some ⟨g, 0, none⟩) m cap) u bk b /\ ∀ x j, Full (w'.setCell ⟨s, j, none⟩ x) b n F := by
 refine ⟨⟨fun he => ?_, h.u, h.k, h.s⟩, fun x j => (hF.grown hg h.v).other (p := ⟨s, j, none⟩) (by have := h.s; show b ≠ s; omega) _⟩
 have he' : g = b := by simpa [Value.ownBlock] using he
 rcases hat with h1 | h1
 ·exact h.v (by rw [h1, he'])
 ·have := hF.lt; omega
theorem ClV.bas {g cap : Nat} (h : ClV W s N T Bs i k v u bk w) (hf : Fr s k v u bk b) (hF : Full w b N F) (he : ∀ q, q < N -> F q = Bs k q) (hown : w'.ownsRow (s + 1) 29 1 (.slice (some ⟨g, 0, none⟩) (k + 1) cap) (k + 1) ((List.range k).map (fun j => Value.slice (some ⟨bk j, 0, none⟩) N N) ++ [.slice (some ⟨b, 0, none⟩) N N])) (hg : w.grownBy w' u.ownBlock) (hat : u.ownBlock = some g ∨ g = w.heap.size) :
  w'.cell? ⟨s, 1, none⟩ = some u /\ w'.frozen? ⟨s, 1, none⟩ = false /\ ClV W s N T Bs i (k + 1) v (.slice (some ⟨g, 0, none⟩) (k + 1) cap) (fun j => if j = k then b else bk j) (w'.setCell ⟨s, 1, none⟩ (.slice (some ⟨g, 0, none⟩) (k + 1) cap)) := by
 have hr : w'.heap[s]? = some (.cells #[v, u] 50 (0, 0)) := by
  rw [hg.block s (by have := h.ly.big; omega) (fun e => by have := (World.ownsRow.lt h.ly.own _ e.symm).1; omega)]
  exact h.row
 refine ⟨Y1 hr, zac hr 1, (h.ly.bas hf.s (hF.congr he) hf.v hf.u hf.k (fun e he => absurd he (by simp)) hown hg hat).set 1 _, ?_⟩
 have := zaq hr 1 (.slice (some ⟨g, 0, none⟩) (k + 1) cap)
 simpa using this
theorem Ly.bas2 {b1 b2 g cap : Nat} (h : Ly W s N [] T Bs i k v u bk w) (h1 : Fr s k v u bk b1) (h2 : Fr s k v u bk b2) (hne : b1 ≠ b2) (hF1 : Full w b1 N (Bs k)) (hF2 : Full w b2 N (Bs (k + 1))) (hown : w'.ownsRow (s + 1) 29 1 (.slice (some ⟨g, 0, none⟩) (k + 2) cap) (k + 2) ((List.range k).map (fun j => Value.slice (some ⟨bk j, 0, none⟩) N N) ++ [.slice (some ⟨b1, 0, none⟩) N N, .slice (some ⟨b2, 0, none⟩) N N])) (hg : w.grownBy w' u.ownBlock) (hat : u.ownBlock = some g ∨ g = w.heap.size) :
  Ly W s N [] T Bs i (k + 2) v (.slice (some ⟨g, 0, none⟩) (k + 2) cap) (fun j => if j = k then b1 else if j = k + 1 then b2 else bk j) w' := by
 have hv := World.ownsRow.lt h.nums
 have hcase : ∀ j, j < k + 2 -> (j = k /\ (if j = k then b1 else if j = k + 1 then b2 else bk j) = b1) ∨ (j = k + 1 /\ (if j = k then b1 else if j = k + 1 then b2 else bk j) = b2) ∨ (j < k /\ (if j = k then b1 else if j = k + 1 then b2 else bk j) = bk j) := fun j hj => by
  by_cases e1 : j = k
  ·exact Or.inl ⟨e1, if_pos e1⟩
  ·by_cases e2 : j = k + 1
   ·exact Or.inr (Or.inl ⟨e2, by rw [if_neg e1, if_pos e2]⟩)
   ·exact Or.inr (Or.inr ⟨by omega, by rw [if_neg e1, if_neg e2]⟩)
 refine ⟨h.old.grown hg fun c hc => ?_, h.ws, Nat.le_trans h.big hg.size, World.ownsRow.kept h.nums hg ?_, ?_, fun j hj => ?_, fun p q hp hq he => ?_, fun j hj he => ?_, fun j hj he => ?_, ?_, fun e he => absurd he (by simp)⟩
 ·have := (World.ownsRow.lt h.own c hc).1; have := h.ws; omega
 ·rcases h.s3 with h3 | h3
  ·exact Or.inl h3
  ·exact Or.inr (Ne.symm h3)
 ·have e : (List.range (k + 2)).map (fun j => Value.slice (some ⟨if j = k then b1 else if j = k + 1 then b2 else bk j, 0, none⟩) N N) = (List.range k).map (fun j => Value.slice (some ⟨bk j, 0, none⟩) N N) ++ [.slice (some ⟨b1, 0, none⟩) N N, .slice (some ⟨b2, 0, none⟩) N N] := by
   rw [show k + 2 = (k + 1) + 1 from rfl, List.range_succ, List.map_append, List.range_succ, List.map_append, List.append_assoc]
   congr 1
   ·refine List.map_congr_left fun j hj => ?_
    have := List.mem_range.1 hj
    rw [if_neg (by omega), if_neg (by omega)]
   ·simp
  rw [e]
  exact hown
 ·rcases hcase j hj with ⟨rfl, e⟩ | ⟨rfl, e⟩ | ⟨hj', e⟩
  ·rw [e]; exact ⟨h1.s, hF1.grown hg h1.u⟩
  ·rw [e]; exact ⟨h2.s, hF2.grown hg h2.u⟩
  ·rw [e]; exact ⟨(h.full j hj').1, (h.full j hj').2.grown hg (h.s2 j hj')⟩
 ·rcases hcase p hp with ⟨rfl, e⟩ | ⟨rfl, e⟩ | ⟨hp', e⟩ <;> rcases hcase q hq with ⟨h4, e'⟩ | ⟨h4, e'⟩ | ⟨hq', e'⟩ <;> rw [e, e'] at he
  ·exact h4.symm
  ·exact absurd he hne
  ·exact absurd he.symm (h1.k q hq')
  ·exact absurd he.symm hne
  ·exact h4.symm
  ·exact absurd he.symm (h2.k q hq')
  ·exact absurd he (h1.k p hp')
  ·exact absurd he (h2.k p hp')
  ·exact h.inj p q hp' hq' he
 ·rcases hcase j hj with ⟨rfl, e⟩ | ⟨rfl, e⟩ | ⟨hj', e⟩ <;> rw [e] at he
  ·exact h1.v he
  ·exact h2.v he
  ·exact h.s1 j hj' he
 ·have he' : g = if j = k then b1 else if j = k + 1 then b2 else bk j := by simpa [Value.ownBlock] using he
  rcases hcase j hj with ⟨rfl, e⟩ | ⟨rfl, e⟩ | ⟨hj', e⟩ <;> rw [e] at he' <;> rcases hat with h5 | h5
  ·exact h1.u (by rw [h5, he'])
  ·have := hF1.lt; omega
  ·exact h2.u (by rw [h5, he'])
  ·have := hF2.lt; omega
  ·exact h.s2 j hj' (by rw [h5, he'])
  ·have := (h.full j hj').2.lt; omega
 ·cases hvo : v.ownBlock with
  | none => exact Or.inl rfl
  | some c =>
   refine Or.inr fun he => ?_
   have he' : g = c := by simpa [Value.ownBlock] using he
   have hc := (hv c hvo).2
   rcases hat with h5 | h5
   ·rcases h.s3 with h3 | h3
    ·rw [h3] at hvo; cases hvo
    ·exact h3 (by rw [h5, hvo, he'])
   ·omega
theorem ClV.bas2 {b1 b2 g cap : Nat} {F1 F2 : NI} (h : ClV W s N T Bs i k v u bk w) (h1 : Fr s k v u bk b1) (h2 : Fr s k v u bk b2) (hne : b1 ≠ b2) (hF1 : Full w b1 N F1) (hF2 : Full w b2 N F2) (he1 : ∀ q, q < N -> F1 q = Bs k q) (he2 : ∀ q, q < N -> F2 q = Bs (k + 1) q) (hown : w'.ownsRow (s + 1) 29 1 (.slice (some ⟨g, 0, none⟩) (k + 2) cap) (k + 2) ((List.range k).map (fun j => Value.slice (some ⟨bk j, 0, none⟩) N N) ++ [.slice (some ⟨b1, 0, none⟩) N N, .slice (some ⟨b2, 0, none⟩) N N])) (hg : w.grownBy w' u.ownBlock) (hat : u.ownBlock = some g ∨ g = w.heap.size) :
  w'.cell? ⟨s, 1, none⟩ = some u /\ w'.frozen? ⟨s, 1, none⟩ = false /\ ClV W s N T Bs i (k + 2) v (.slice (some ⟨g, 0, none⟩) (k + 2) cap) (fun j => if j = k then b1 else if j = k + 1 then b2 else bk j) (w'.setCell ⟨s, 1, none⟩ (.slice (some ⟨g, 0, none⟩) (k + 2) cap)) := by
 have hr : w'.heap[s]? = some (.cells #[v, u] 50 (0, 0)) := by
  rw [hg.block s (by have := h.ly.big; omega) (fun e => by have := (World.ownsRow.lt h.ly.own _ e.symm).1; omega)]
  exact h.row
 refine ⟨Y1 hr, zac hr 1, (h.ly.bas2 h1 h2 hne (hF1.congr he1) (hF2.congr he2) hown hg hat).set 1 _, ?_⟩
 have := zaq hr 1 (.slice (some ⟨g, 0, none⟩) (k + 2) cap)
 simpa using this
theorem ClY.new (hs : W.heap.size <= s) (ho : Old W w) (hr : w.heap[s]? = some (.cells #[.slice none 0 0, .slice none 0 0] 50 (0, 0))) : ClY W s N T Bs 0 w :=
 ⟨.slice none 0 0, .slice none 0 0, fun _ => 0, ⟨ho, hs, by have := zag hr; omega, zaD _ _ _, World.ownsRow_nil _ _ _ _, fun j hj => by omega, fun i j hi => by omega, fun j hj => by omega, fun j hj => by omega, Or.inl rfl, fun e he => absurd he (by simp)⟩, hr⟩
theorem ClY.claim (h : ClY W s N T Bs k w) (hN : N <= 9223372036854775807) : ∃ v u, w.heap[s]? = some (.cells #[v, u] 50 (0, 0)) /\ Nums w (s + 1) v k T /\ Rws w (s + 1) u k (fun _ => N) Bs :=
 let ⟨v, u, bk, h⟩ := h; ⟨v, u, h.row, h.ly.nums, fun j => some ⟨bk j, 0, none⟩, fun _ => N, h.ly.own, fun j hj => (h.ly.full j hj).2.nums (h.ly.full j hj).1 hN⟩
def Row1 (w0 : World) (b N p : Nat) (w : World) : Prop := Old w0 w /\ ∃ c, Full w b N (fun r => if r = p then c else 1)
theorem Row1.old {w0 : World} {b N p : Nat} (w w' : World) (h : Row1 w0 b N p w) (ho : Old w w') : Row1 w0 b N p w' := ⟨h.1.trans ho, let ⟨c, h⟩ := h.2; ⟨c, h.old ho⟩⟩
theorem Row1.of {w0 : World} {p : Nat} (ho : Old w0 w) (h : Full w b N (fun _ => 1)) : Row1 w0 b N p w := ⟨ho, 1, h.congr fun r _ => by simp⟩
def zcM (b N p : Nat) (x : Int) : Ent := .u (fun _ w => Full w b N (fun r => if r = p then x else 1)) fun _ _ _ h ho => h.old ho
theorem row_stS {w0 : World} {E : List Ent} {j p : Nat} {x : Int} (hk : zdP E j = true) (hE : E[j]? = some (zcM b N p x)) (hp : p < N) (hb : w0.heap.size <= b) (wx : World) (h : Row1 w0 b N p wx) :
  (∃ o, wx.cell? ⟨b, p, none⟩ = some o) /\ wx.frozen? ⟨b, p, none⟩ = false /\ ResT E (Row1 w0 b N p) (zcM b N p x) wx undef (wx.setCell ⟨b, p, none⟩ (.int .u64 x)) := by
 obtain ⟨ho, c, hF⟩ := h
 have hn : Full (wx.setCell ⟨b, p, none⟩ (.int .u64 x)) b N (fun r => if r = p then x else 1) := (hF.set p x).congr fun r _ => by
  by_cases h1 : r = p <;> simp [h1]
 exact ⟨⟨_, hF.cell p hp⟩, hF.free p, zdo hk hE ⟨ho.setCell (p := ⟨b, p, none⟩) hb _, x, hn⟩ fun _ => hn⟩
theorem zcD {p q : Nat} {x z : Int} (hF : Full w b N (fun r => if r = p then x else 1)) (hpq : p ≠ q) : Full (w.setCell ⟨b, q, none⟩ (.int .u64 z)) b N (row28 p x q z) := (hF.set q z).congr fun r _ => by
 unfold row28
 by_cases h1 : r = q
 ·subst h1; simp [Ne.symm hpq]
 ·simp [h1]
end
end
end Go.Proofs.YtlnmjbbpenhdbaaGreat
