/-
  What the proof needs, part 19.
-/
import Derived.Test.YtlnmjbbpenhdbaaGreatKp18
namespace Go.Proofs.YtlnmjbbpenhdbaaGreat
open Tryz
open List renaming set_cons_zero → Ls0, set_cons_succ → Ls1, drop_succ_cons → Ld1, drop_zero → Ld0, drop_nil → Ldn
open Tryz renaming underlying3 → U3, underlying22 → U22, underlying25 → U25, underlying26 → U26, underlying27 → U27, underlying29 → U29, underlying31 → U31, underlying57 → U57, underlying69 → U69, underlying74 → U74
set_option linter.unusedSimpArgs false
set_option linter.unusedVariables false
set_option maxRecDepth 100000
set_option maxHeartbeats 32000000
section
open Go.RowKit
theorem zfE {P : Program} {W : World} {b : Nat} {p0 q0 r0 s0 u0 p q r s u : Value} {t ty : TypeId} {fs : Array Field} (h : W.heap[b]? = some (.cells #[p0, q0, r0, s0, u0] t (0, 0))) (hu : P.underlying ty = some (.struct fs)) (hi : (P.info? ty).map (·.size) = some 5) :
  (loadVar ty ⟨b, 0, none⟩).run P (((((W.setCell ⟨b, 0, none⟩ p).setCell ⟨b, 1, none⟩ q).setCell ⟨b, 2, none⟩ r).setCell ⟨b, 3, none⟩ s).setCell ⟨b, 4, none⟩ u) = .ok (.agg #[p, q, r, s, u]) (((((W.setCell ⟨b, 0, none⟩ p).setCell ⟨b, 1, none⟩ q).setCell ⟨b, 2, none⟩ r).setCell ⟨b, 3, none⟩ s).setCell ⟨b, 4, none⟩ u) :=
 run_loadVar_row _ b t ty #[p, q, r, s, u] (0, 0) _ (by
  have := zaq (zaq (zaq (zaq (zaq h 0 p) 1 q) 2 r) 3 s) 4 u
  simpa using this) hu rfl hi
theorem Old.five {a W : World} (h : Old a W) {b : Nat} (hb : a.heap.size <= b) (p q r s u : Value) : Old a (((((W.setCell ⟨b, 0, none⟩ p).setCell ⟨b, 1, none⟩ q).setCell ⟨b, 2, none⟩ r).setCell ⟨b, 3, none⟩ s).setCell ⟨b, 4, none⟩ u) :=
 ((((h.setCell (p := ⟨b, 0, none⟩) hb _).setCell (p := ⟨b, 1, none⟩) hb _).setCell (p := ⟨b, 2, none⟩) hb _).setCell (p := ⟨b, 3, none⟩) hb _).setCell (p := ⟨b, 4, none⟩) hb _
theorem spro_no (P Q G H : Int) (a : OA) (m cap : Nat) (label : List Int) (y : Int) (bi : OA) (l ci : Nat) (C : NN) (bo : OA) (no co : Nat) (O : NI) (bρ : OA) (nρ cρ : Nat) (Rh : NN) (bR : OA) (nR cR : Nat) (bS : OA) (nS cS : Nat) (bT : OA) (nT cT : Nat) (bD : OA) (nD cD : Nat) (M : NN) (A B Pp : NI) (nt : Nat) (K : NI) (nz : Nat) (Zf : NI) (w : World) (h4 : Four P Q G H) (hr : Righ P Q G) (hy : U64 y) (ml : l <= 80) (mo : no <= 80) (mρ : nρ <= 80) (hC : BoxsIn w bi l C) (hO : IntsIn w bo no O) (hρ : RhoIn w bρ nρ Rh) (hok : (mixB P Q y l C no O nρ && drwB l nR nS nT nD) = false) :
  Calls prog 31 #[gv P Q G H a m cap, .string (strOfNums label), .int .u64 y, .slice bi l ci, .slice bo no co, dv bρ nρ cρ bR nR cR bS nS cS bT nT cT bD nD cD] w (GivS w (mixB P Q y l C no O nρ && drwB l nR nS nT nD) l M A B Pp nt K nz Zf) := by
 have HMx := fun wx (ho : Old w wx) => smix_any P Q G H a m cap y bi l ci C bo no co O bρ nρ cρ Rh wx h4 hr hy (by omega) (by omega) (by omega) (hC.old ho) (hO.old ho) (hρ.old ho)
 generalize mixC P Q G y C O Rh = M0 at HMx
 have HNo := hid hok
 have HDr : Hid (mixB P Q y l C no O nρ = true -> ∀ wx, Calls prog 88 #[dv bρ nρ cρ bR nR cR bS nS cS bT nT cT bD nD cD, .int .i64 (l : Int)] wx (Ret wx (.bool false))) := fun hm wx => by
  have h8 : l <= 8 := by
   unfold mixB at hm
   simp only [Bool.and_eq_true_iff, decide_eq_true_eq] at hm
   exact (zaK.1 hm.2.2.2.1).1.2
  have := zfe bρ nρ cρ bR nR cR bS nS cS bT nT cT bD nD cD l wx h8
  rw [hm, Bool.true_and] at hok
  rwa [hok] at this
 clear hC hO hρ h4 hr hy hok
 generalize mixB P Q y l C no O nρ = mb at *
 generalize drwB l nR nS nT nD = db at *
 have HZ := lain3 w (gc P Q G H a m cap) (dvc bρ nρ cρ bR nR cR bS nS cS bT nT cT bD nD cD) #[.slice none 0 0, .slice none 0 0, .slice none 0 0, .slice none 0 0, .slice none 0 0] 25 31 57
 have HG0 := fun w' ho => (HZ.then (W' := w') ho).row 0 (by simp)
 have HD0 := fun w' ho => (HZ.then (W' := w') ho).row 1 (by simp)
 have HS0 := fun w' ho => (HZ.then (W' := w') ho).row 2 (by simp)
 have HW0 := hid HZ.old
 clear HZ
 go_enter func31, ntmps31
 go_upto_region 1 with fail
 generalize ((w.alloc (.cells (gc P Q G H a m cap) 25)).alloc (.cells (dvc bρ nρ cρ bR nR cR bS nS cS bT nT cT bD nD cD) 31)).alloc (.cells #[.slice none 0 0, .slice none 0 0, .slice none 0 0, .slice none 0 0, .slice none 0 0] 57) = W1 at *
 have HG := hid HG0
 have HDd := hid HD0
 have HSh := hid HS0
 clear HG0 HD0 HS0
 obtain ⟨gb, hgb⟩ : ∃ gb, gb = w.heap.size := ⟨_, rfl⟩
 rw [<- hgb] at HG HDd HSh
 rw [<- hgb]
 have HGs : Hid (w.heap.size <= gb + 1 + 1) := by unfold Hid; omega
 clear hgb
 have HGc : Hid (∀ wx, Old W1 wx -> G5 wx (gb) P Q G H (.slice a m cap)) := fun wx ho => g5 (HG.out _ ho)
 have HDc : Hid (∀ wx, Old W1 wx -> wx.cell? ⟨gb + 1, 0, none⟩ = some (.slice bρ nρ cρ) /\ wx.cell? ⟨gb + 1, 1, none⟩ = some (.slice bR nR cR) /\ wx.cell? ⟨gb + 1, 2, none⟩ = some (.slice bS nS cS) /\ wx.cell? ⟨gb + 1, 3, none⟩ = some (.slice bT nT cT) /\ wx.cell? ⟨gb + 1, 4, none⟩ = some (.slice bD nD cD)) := fun wx ho => g5 (HDd.out _ ho)
 have HSc : Hid (∀ wx, Old W1 wx -> (wx.cell? ⟨gb + 1 + 1, 0, none⟩ = some (.slice none 0 0) /\ wx.cell? ⟨gb + 1 + 1, 1, none⟩ = some (.slice none 0 0) /\ wx.cell? ⟨gb + 1 + 1, 2, none⟩ = some (.slice none 0 0) /\ wx.cell? ⟨gb + 1 + 1, 3, none⟩ = some (.slice none 0 0) /\ wx.cell? ⟨gb + 1 + 1, 4, none⟩ = some (.slice none 0 0)) /\ ∀ j, wx.frozen? ⟨gb + 1 + 1, j, none⟩ = false) := fun wx ho => ⟨g5 (HSh.out _ ho), fun j => zac (HSh.out _ ho) j⟩
 obtain ⟨g0, g1, g2, g3, g4⟩ := HGc.out _ (Old.refl _)
 obtain ⟨d0, d1, d2, d3, d4⟩ := HDc.out _ (Old.refl _)
 have HMh := hid HMx
 clear HMx
 cases mb with
 | false =>
  go_upto_region 2 with (go_at_call 15; refine (HMh.out _ HW0.out).mono ?_; rintro e w2 ⟨o2, bm, rfl, hbm⟩; simp only [Bool.false_eq_true, if_false])
  clear g0 g1 g2 g3 g4 d0 d1 d2 d3 d4 hbm
  have HO2 := hid o2
  clear o2
  go_upto_region 3 with fail
  obtain ⟨⟨s0, s1, s2, s3, s4⟩, hf⟩ := HSc.out _ HO2.out
  have f0 := hf 0
  have f1 := hf 1
  have f2 := hf 2
  have f3 := hf 3
  have f4 := hf 4
  clear hf
  go_wp2_with fail
  exact bodyPost_ret (zfs (b := gb + 1 + 1) rfl rfl rfl rfl (zfE (HSh.out _ HO2.out) U57 zaU)) rfl (zcR HNo.out ((HW0.out.trans HO2.out).five HGs.out _ _ _ _ _))
 | true =>
  go_upto_region 2 with (go_at_call 15; refine (HMh.out _ HW0.out).mono ?_; rintro e w2 ⟨o2, bm, rfl, hbm⟩; simp only [if_true])
  clear g0 g1 g2 g3 g4 d0 d1 d2 d3 d4 hbm
  have HO2 := hid o2
  clear o2
  obtain ⟨d0, d1, d2, d3, d4⟩ := HDc.out _ HO2.out
  go_upto_region 3 with (go_at_call 88; refine (HDr.out rfl _).mono ?_; rintro e w3 ⟨rfl, o3⟩)
  have HO3 := hid (HO2.out.trans o3)
  clear d0 d1 d2 d3 d4 o3
  obtain ⟨⟨s0, s1, s2, s3, s4⟩, hf⟩ := HSc.out _ HO3.out
  have f0 := hf 0
  have f1 := hf 1
  have f2 := hf 2
  have f3 := hf 3
  have f4 := hf 4
  clear hf
  go_wp2_with fail
  exact bodyPost_ret (zfs (b := gb + 1 + 1) rfl rfl rfl rfl (zfE (HSh.out _ HO3.out) U57 zaU)) rfl (zcR HNo.out ((HW0.out.trans HO3.out).five HGs.out _ _ _ _ _))
def mxX (P Q G H : Int) (label : List Int) (y : Int) (n : Nat) (C : NN) (O : NI) (Rh : NN) (R : NI) : Int := chX label Q (knwS P Q G H y n C n (mixC P Q G y C O Rh)) n (aF P Q G H O R)
def mxC (c P Q G H : Int) (label : List Int) (y : Int) (n : Nat) (C : NN) (O : NI) (Rh : NN) (R S : NI) : Int := chYZ c label Q (knwS P Q G H y n C n (mixC P Q G y C O Rh)) n (aF P Q G H O R) (bF P Q G H (mxX P Q G H label y n C O Rh R) O S)
def mxB (P Q G H : Int) (label : List Int) (y : Int) (n : Nat) (C : NN) (O : NI) (Rh : NN) (R S : NI) : Nat -> Int := bF P Q G H (mxX P Q G H label y n C O Rh R) O S
def mxP (P Q G H : Int) (label : List Int) (y : Int) (n : Nat) (C : NN) (O : NI) (Rh : NN) (R S T : NI) : Nat -> Int := pF P Q G H (mxX P Q G H label y n C O Rh R) (mxC 121 P Q G H label y n C O Rh R S) (mxC 122 P Q G H label y n C O Rh R S) O R S T
def mxT (P Q G H : Int) (label : List Int) (y : Int) (n : Nat) (C : NN) (O : NI) (Rh : NN) (R S T : NI) : Nat -> Int := tgtT P Q G (mxX P Q G H label y n C O Rh R) (mxC 121 P Q G H label y n C O Rh R S) (mxC 122 P Q G H label y n C O Rh R S) n (aF P Q G H O R) (mxB P Q G H label y n C O Rh R S) (mxP P Q G H label y n C O Rh R S T) (uC C) (vC C)
def mxS (P Q G H : Int) (label : List Int) (y : Int) (n : Nat) (C : NN) (O : NI) (Rh : NN) (R S T : NI) : Nat -> Nat -> Int := bas8 n (mxP P Q G H label y n C O Rh R S T) G H y (uC (mixC P Q G y C O Rh)) (vC (mixC P Q G y C O Rh))
def mxE (P Q G H : Int) (label : List Int) (y : Int) (n : Nat) (C : NN) (O : NI) (Rh : NN) (R S T : NI) : Nat -> Int := exF Q (mxX P Q G H label y n C O Rh R) (mxC 121 P Q G H label y n C O Rh R S) (mxC 122 P Q G H label y n C O Rh R S) n (fun i => (O i).toNat) R S T Rh
def mxK (P Q G H : Int) (label : List Int) (y : Int) (n : Nat) (C : NN) (O : NI) (Rh : NN) (R S T D : NI) : Nat -> Int := fun j => imI P Q (mxS P Q G H label y n C O Rh R S T j) D (7 * n + 3)
def mxH (P Q G H : Int) (label : List Int) (y : Int) (n : Nat) (C : NN) (O : NI) (Rh : NN) (R S T D : NI) : Int := chI label P Q G H (4 * n + 6) (mxT P Q G H label y n C O Rh R S T) (4 * n + 6) (fun _ => 7 * n + 3) (mxS P Q G H label y n C O Rh R S T) (4 * n + 6) (mxK P Q G H label y n C O Rh R S T D)
def mxZ (P Q G H : Int) (label : List Int) (y : Int) (n : Nat) (C : NN) (O : NI) (Rh : NN) (R S T D : NI) : Nat -> Int := fun k => ansI Q (mxH P Q G H label y n C O Rh R S T D) (mxE P Q G H label y n C O Rh R S T k) (D k)
theorem mix8_of {P Q G H y : Int} {w : World} {n no nρ : Nat} {C : NN} {O : NI} {Rh : NN} {R S T : NI} {bρ bR bS bT : OA} (hr : Righ P Q G) (hin : inI P Q H = true) (hm : mixB P Q y n C no O nρ = true) (hρ : RhoIn w bρ nρ Rh) (hR : FacsIn w bR n R) (hS : FacsIn w bS n S) (hT : FacsIn w bT n T) : Mix8 P Q G H y n C O Rh R S T := by
 unfold mixB at hm
 simp only [Bool.and_eq_true_iff, decide_eq_true_eq] at hm
 obtain ⟨h1, h2, h3, h5, h6⟩ := hm
 subst h1 h2
 obtain ⟨⟨h7, h8⟩, h9⟩ := zaK.1 h5
 exact ⟨hr, hin, h6, h7, h8, zaA.1 h3, h9, fun i hi => (hR.u64 i hi).1, fun i hi => (hS.u64 i hi).1, fun i hi => (hT.u64 i hi).1, fun i hi k hk => (hρ.u64 hi hk).1⟩
theorem zdD (P Q G H : Int) (a : OA) (m cap : Nat) (label : List Int) (y : Int) (bi : OA) (l ci : Nat) (C : NN) (bo : OA) (no co : Nat) (O : NI) (bρ : OA) (nρ cρ : Nat) (Rh : NN) (bR : OA) (nR cR : Nat) (R : NI) (bS : OA) (nS cS : Nat) (S : NI) (bT : OA) (nT cT : Nat) (T : NI) (bD : OA) (nD cD : Nat) (D : NI) (w : World) (h4 : Four P Q G H) (hr : Righ P Q G) (hin : inI P Q H = true) (hy : U64 y) (hlb : Bts label) (hll : label.length <= 1000) (ml : l <= 80) (mo : no <= 80) (mρ : nρ <= 80) (hcT : nT <= cT /\ cT <= 9223372036854775807) (hcD : nD <= cD)
  (hC : BoxsIn w bi l C) (hO : IntsIn w bo no O) (hρ : RhoIn w bρ nρ Rh) (hR : FacsIn w bR nR R) (hS : FacsIn w bS nS S) (hT : FacsIn w bT nT T) (hD : FacsIn w bD nD D) :
  Calls prog 31 #[gv P Q G H a m cap, .string (strOfNums label), .int .u64 y, .slice bi l ci, .slice bo no co, dv bρ nρ cρ bR nR cR bS nS cS bT nT cT bD nD cD] w (GivS w (mixB P Q y l C no O nρ && drwB l nR nS nT nD) l (mixC P Q G y C O Rh) (aF P Q G H O R) (mxB P Q G H label y l C O Rh R S) (mxP P Q G H label y l C O Rh R S T) (4 * l + 6) (mxK P Q G H label y l C O Rh R S T D) (7 * l + 3) (mxZ P Q G H label y l C O Rh R S T D)) := by
 cases hok : (mixB P Q y l C no O nρ && drwB l nR nS nT nD) with
 | false =>
  rw [<- hok]
  exact spro_no P Q G H a m cap label y bi l ci C bo no co O bρ nρ cρ Rh bR nR cR bS nS cS bT nT cT bD nD cD _ _ _ _ _ _ _ _ w h4 hr hy ml mo mρ hC hO hρ hok
 | true =>
  obtain ⟨hm, hd⟩ := Bool.and_eq_true_iff.1 hok
  obtain ⟨e1, e2, e3, e4⟩ := zb1.1 hd
  have hm' := hm
  unfold mixB at hm'
  simp only [Bool.and_eq_true_iff, decide_eq_true_eq] at hm'
  obtain ⟨e5, e6, h3, h5, h6⟩ := hm'
  subst e1 e2 e3 e5 e6
  have M := mix8_of hr hin hm hρ hR hS hT
  have uY : U64 (mxC 121 P Q G H label y nρ C O Rh R S) := by unfold mxC chYZ; exact zat _ _ _ _
  have uZ : U64 (mxC 122 P Q G H label y nρ C O Rh R S) := by unfold mxC chYZ; exact zat _ _ _ _
  have hsz := (M.claim (mxX P Q G H label y nρ C O Rh R) uY.1 uZ.1).size
  exact lpro_any P Q G H a m cap label y bi ci C bo co O bρ cρ Rh bR cR R bS cS S bT cT T bD nD cD D nρ (mxX P Q G H label y nρ C O Rh R) (mxC 121 P Q G H label y nρ C O Rh R S) (mxC 122 P Q G H label y nρ C O Rh R S) (aF P Q G H O R) (mxB P Q G H label y nρ C O Rh R S) (mxP P Q G H label y nρ C O Rh R S T) (mixC P Q G y C O Rh) (mxE P Q G H label y nρ C O Rh R S T) (mxK P Q G H label y nρ C O Rh R S T D) (mxZ P Q G H label y nρ C O Rh R S T D) w M.n1 M.n8 h4 hr hy hlb hll hcT hcD hC hO hρ hR hS hT hD hm hd h3 rfl rfl rfl rfl rfl rfl rfl rfl (congrArg (fun z => fun j => imI P Q (mxS P Q G H label y nρ C O Rh R S T j) D z) hsz.symm) rfl (M.clm _ uY.1 uZ.1) (M.prov _ uY.1 uZ.1 e4)
def accG (P Q G H : Int) (label : List Int) (y : Int) (l : Nat) (C : NN) (no : Nat) (O : NN) (na : Nat) (A : NI) (nb : Nat) (B : NI) (np : Nat) (Pp : NI) (nk : Nat) (K : NI) (nz : Nat) (Xz : NI) : Bool :=
 fitB l no na nb np && accS P Q G H label y l C O A B Pp nk K nz Xz (chX label Q (knwS P Q G H y l C l O) l A) (chYZ 121 label Q (knwS P Q G H y l C l O) l A B) (chYZ 122 label Q (knwS P Q G H y l C l O) l A B)
theorem zgb (P Q G H : Int) (a : OA) (m cap : Nat) (label : List Int) (y : Int) (bi : OA) (l ci : Nat) (C : NN) (bo : OA) (no co : Nat) (O : NN) (ba : OA) (na ca : Nat) (A : NI) (bb : OA) (nb cb : Nat) (B : NI) (bp : OA) (np cp : Nat) (Pp : NI) (bk : OA) (nk ck : Nat) (K : NI) (bz : OA) (nz cz : Nat) (Xz : NI) (w : World) (h4 : Four P Q G H) (hr : Righ P Q G) (hy : U64 y) (hlb : Bts label) (hll : label.length <= 1000) (ml : l <= 9223372036854775807) (hca : na <= ca /\ ca <= 9223372036854775807) (hcb : nb <= cb /\ cb <= 9223372036854775807) (mk : nk <= 80) (hC : BoxsIn w bi l C) (hO : BoxsIn w bo no O) (hA : FacsIn w ba na A) (hB : FacsIn w bb nb B) (hP : FacsIn w bp np Pp) (hK : FacsIn w bk nk K) (hX : FacsIn w bz nz Xz) :
  Calls prog 34 #[gv P Q G H a m cap, .string (strOfNums label), .int .u64 y, .slice bi l ci, .slice bo no co, .agg #[.slice ba na ca, .slice bb nb cb, .slice bp np cp, .slice bk nk ck, .slice bz nz cz]] w (Ret w (.bool (accG P Q G H label y l C no O na A nb B np Pp nk K nz Xz))) := by
 unfold accG
 cases hf : fitB l no na nb np with
 | false =>
  rw [Bool.false_and]
  exact sacc_no P Q G H a m cap label y bi l ci bo no co ba na ca bb nb cb bp np cp bk nk ck bz nz cz w ml hf
 | true =>
  rw [Bool.true_and]
  obtain ⟨⟨h1, h8⟩, e1, e2, e3, e4⟩ := zfS.1 hf
  subst e1 e2 e3 e4
  exact lacc_any P Q G H a m cap label y bi ci C bo co O ba ca A bb cb B bp cp Pp bk nk ck K bz nz cz Xz _ _ _ _ w h1 h8 h4 hr hy hlb hll hca hcb mk hC hO hA hB hP hK hX rfl rfl rfl
theorem Mix8.accG {P Q G H y : Int} {n : Nat} {C : NN} {O : NI} {Rh : NN} {R S T : NI} (m : Mix8 P Q G H y n C O Rh R S T) (label : List Int) {D : NI} (hD : ∀ k, k < 7 * n + 3 -> 0 <= D k) :
  accG P Q G H label y n C n (mixC P Q G y C O Rh) n (aF P Q G H O R) n (mxB P Q G H label y n C O Rh R S) n (mxP P Q G H label y n C O Rh R S T) (4 * n + 6) (mxK P Q G H label y n C O Rh R S T D) (7 * n + 3) (mxZ P Q G H label y n C O Rh R S T D) = true := by
 have uY : U64 (mxC 121 P Q G H label y n C O Rh R S) := by unfold mxC chYZ; exact zat _ _ _ _
 have uZ : U64 (mxC 122 P Q G H label y n C O Rh R S) := by unfold mxC chYZ; exact zat _ _ _ _
 have uH : U64 (mxH P Q G H label y n C O Rh R S T D) := by unfold mxH chI; exact zat _ _ _ _
 unfold Go.Proofs.YtlnmjbbpenhdbaaGreat.accG accS
 rw [Bool.and_eq_true_iff, Bool.and_eq_true_iff]
 exact ⟨zfS.2 ⟨⟨m.n1, m.n8⟩, rfl, rfl, rfl, rfl⟩, m.clm _ uY.1 uZ.1, m.acc _ uY.1 uZ.1 uH.1 hD⟩
theorem zft {F G : NI} : ∀ n, (∀ i, i < n -> F i = G i) -> packL F n = packL G n
 | 0, _ => rfl
 | n + 1, h => by
  unfold packL
  rw [zft n fun i hi => h i (by omega), h n (by omega)]
theorem chX_congr {label : List Int} {Q : Int} {K : Nat -> List Int} {n : Nat} {A A' : NI} (h : ∀ i, i < n -> A i = A' i) : chX label Q K n A = chX label Q K n A' := by
 unfold chX
 refine zbf fun i hi => ?_
 unfold askS
 split
 ·rfl
 split
 ·rfl
 ·exact zft _ h
theorem chYZ_congr {c : Int} {label : List Int} {Q : Int} {K : Nat -> List Int} {n : Nat} {A A' B B' : NI} (h : ∀ i, i < n -> A i = A' i) (k : ∀ i, i < n -> B i = B' i) : chYZ c label Q K n A B = chYZ c label Q K n A' B' := by
 unfold chYZ
 refine zbf fun i hi => ?_
 unfold askS
 split
 ·rfl
 split
 ·rfl
 ·match i - 4 with
  | 0 => exact zft _ h
  | _ + 1 => exact zft _ k
theorem zfO {label : List Int} {S : Nat -> List Int} {n : Nat} {q v : Int} (l : List Int) (e : numL label S n = l) (hb : Bts l) (hq : okM q) (hv : numF (fun i => (shaN l).getD i 0) q 16 = v) : zaj label S n q = v := by
 unfold zaj
 rw [if_pos hq, e, sum_is l hb]
 exact hv
def bx8 : Nat -> Int
 | 0 => 1
 | 1 => 4
 | 2 => 1
 | 3 => 9
 | 4 => 4
 | _ => 16
def rh8 : Nat -> Int
 | 0 => 5
 | 1 => 6
 | _ => 7
def mx8 : Nat -> Int
 | 0 => 1024
 | 1 => 1590
 | 2 => 42
 | 3 => 1936
 | 4 => 672
 | _ => 1583
abbrev awC : Nat -> Nat -> Int := fun _ => bx8
abbrev awR : Nat -> Nat -> Int := fun _ => rh8
abbrev awO : Nat -> Int := fun _ => 0
abbrev awM : Nat -> Nat -> Int := mixC 2027 1013 4 64 awC awO awR
theorem aw_mix : mixB 2027 1013 64 1 awC 1 awO 1 = true := by decide +kernel
theorem aw_drw : drwB 1 1 1 1 10 = true := by decide +kernel
theorem aw_h : inI 2027 1013 9 = true := by decide +kernel
theorem aw_M : ∀ k, k < 6 -> awM 0 k = mx8 k := by decide +kernel
theorem aw_A : aF 2027 1013 4 9 awO (fun _ => 1) 0 = 36 := by decide +kernel
def kn8 : Nat -> List Int := knwS 2027 1013 4 9 64 1 awC 1 awM
def kn9 : Nat -> List Int := knwS 2027 1013 4 9 64 1 awM 1 awM
theorem aw_X : mxX 2027 1013 4 9 [97] 64 1 awC awO awR (fun _ => 1) = 262 := by
 unfold mxX
 rw [chX_congr (A' := fun _ => 36) fun i hi => by rw [show i = 0 by omega]; exact aw_A]
 have e : numL [97] (askS [120] kn8 (one8 (fun _ => 36)) (one8 1)) (1 + 4) = [0, 0, 0, 0, 0, 0, 0, 1, 97, 0, 0, 0, 0, 0, 0, 0, 1, 120, 0, 0, 0, 0, 0, 0, 0, 40, 0, 0, 0, 0, 0, 0, 7, 235, 0, 0, 0, 0, 0, 0, 3, 245, 0, 0, 0, 0, 0, 0, 0, 4, 0, 0, 0, 0, 0, 0, 0, 9, 0, 0, 0, 0, 0, 0, 0, 64, 0, 0, 0, 0, 0, 0, 0, 48, 0, 0, 0, 0, 0, 0, 0, 1, 0, 0, 0, 0, 0, 0, 0, 4, 0, 0, 0, 0, 0, 0, 0, 1, 0, 0, 0, 0, 0, 0, 0, 9, 0, 0, 0, 0, 0, 0, 0, 4, 0, 0, 0, 0, 0, 0, 0, 16, 0, 0, 0, 0, 0, 0, 0, 48, 0, 0, 0, 0, 0, 0, 4, 0, 0, 0, 0, 0, 0, 0, 6, 54, 0, 0, 0, 0, 0, 0, 0, 42, 0, 0, 0, 0, 0, 0, 7, 144, 0, 0, 0, 0, 0, 0, 2, 160, 0, 0, 0, 0, 0, 0, 6, 47, 0, 0, 0, 0, 0, 0, 0, 8, 0, 0, 0, 0, 0, 0, 0, 36] := by decide +kernel
 exact zfO _ e (by unfold Bts; decide +kernel) (by decide) (by decide +kernel)
theorem aw_B : mxB 2027 1013 4 9 [97] 64 1 awC awO awR (fun _ => 1) (fun _ => 2) 0 = 1648 := by
 show comI 2027 1013 4 9 (powI (mxX 2027 1013 4 9 [97] 64 1 awC awO awR (fun _ => 1)) (0 + 1) 1013) 2 = 1648
 rw [aw_X]
 decide +kernel
theorem aw_ch (c : Int) (K : Nat -> List Int) : chYZ c [97] 1013 K 1 (aF 2027 1013 4 9 awO (fun _ => 1)) (mxB 2027 1013 4 9 [97] 64 1 awC awO awR (fun _ => 1) (fun _ => 2)) = zaj [97] (askS [c] K (two8f (fun _ => 36) (fun _ => 1648)) (two8f 1 1)) (2 + 4) 1013 :=
 chYZ_congr (fun i hi => by rw [show i = 0 by omega]; exact aw_A) (fun i hi => by rw [show i = 0 by omega]; exact aw_B)
theorem aw_Y : mxC 121 2027 1013 4 9 [97] 64 1 awC awO awR (fun _ => 1) (fun _ => 2) = 936 := by
 refine (aw_ch 121 kn8).trans ?_
 have e : numL [97] (askS [121] kn8 (two8f (fun _ => 36) (fun _ => 1648)) (two8f 1 1)) (2 + 4) = [0, 0, 0, 0, 0, 0, 0, 1, 97, 0, 0, 0, 0, 0, 0, 0, 1, 121, 0, 0, 0, 0, 0, 0, 0, 40, 0, 0, 0, 0, 0, 0, 7, 235, 0, 0, 0, 0, 0, 0, 3, 245, 0, 0, 0, 0, 0, 0, 0, 4, 0, 0, 0, 0, 0, 0, 0, 9, 0, 0, 0, 0, 0, 0, 0, 64, 0, 0, 0, 0, 0, 0, 0, 48, 0, 0, 0, 0, 0, 0, 0, 1, 0, 0, 0, 0, 0, 0, 0, 4, 0, 0, 0, 0, 0, 0, 0, 1, 0, 0, 0, 0, 0, 0, 0, 9, 0, 0, 0, 0, 0, 0, 0, 4, 0, 0, 0, 0, 0, 0, 0, 16, 0, 0, 0, 0, 0, 0, 0, 48, 0, 0, 0, 0, 0, 0, 4, 0, 0, 0, 0, 0, 0, 0, 6, 54, 0, 0, 0, 0, 0, 0, 0, 42, 0, 0, 0, 0, 0, 0, 7, 144, 0, 0, 0, 0, 0, 0, 2, 160, 0, 0, 0, 0, 0, 0, 6, 47, 0, 0, 0, 0, 0, 0, 0, 8, 0, 0, 0, 0, 0, 0, 0, 36, 0, 0, 0, 0, 0, 0, 0, 8, 0, 0, 0, 0, 0, 0, 6, 112] := by decide +kernel
 exact zfO _ e (by unfold Bts; decide +kernel) (by decide) (by decide +kernel)
theorem aw_Z : mxC 122 2027 1013 4 9 [97] 64 1 awC awO awR (fun _ => 1) (fun _ => 2) = 514 := by
 refine (aw_ch 122 kn8).trans ?_
 have e : numL [97] (askS [122] kn8 (two8f (fun _ => 36) (fun _ => 1648)) (two8f 1 1)) (2 + 4) = [0, 0, 0, 0, 0, 0, 0, 1, 97, 0, 0, 0, 0, 0, 0, 0, 1, 122, 0, 0, 0, 0, 0, 0, 0, 40, 0, 0, 0, 0, 0, 0, 7, 235, 0, 0, 0, 0, 0, 0, 3, 245, 0, 0, 0, 0, 0, 0, 0, 4, 0, 0, 0, 0, 0, 0, 0, 9, 0, 0, 0, 0, 0, 0, 0, 64, 0, 0, 0, 0, 0, 0, 0, 48, 0, 0, 0, 0, 0, 0, 0, 1, 0, 0, 0, 0, 0, 0, 0, 4, 0, 0, 0, 0, 0, 0, 0, 1, 0, 0, 0, 0, 0, 0, 0, 9, 0, 0, 0, 0, 0, 0, 0, 4, 0, 0, 0, 0, 0, 0, 0, 16, 0, 0, 0, 0, 0, 0, 0, 48, 0, 0, 0, 0, 0, 0, 4, 0, 0, 0, 0, 0, 0, 0, 6, 54, 0, 0, 0, 0, 0, 0, 0, 42, 0, 0, 0, 0, 0, 0, 7, 144, 0, 0, 0, 0, 0, 0, 2, 160, 0, 0, 0, 0, 0, 0, 6, 47, 0, 0, 0, 0, 0, 0, 0, 8, 0, 0, 0, 0, 0, 0, 0, 36, 0, 0, 0, 0, 0, 0, 0, 8, 0, 0, 0, 0, 0, 0, 6, 112] := by decide +kernel
 exact zfO _ e (by unfold Bts; decide +kernel) (by decide) (by decide +kernel)
theorem aw_Y2 : chYZ 121 [97] 1013 kn9 1 (aF 2027 1013 4 9 awO (fun _ => 1)) (mxB 2027 1013 4 9 [97] 64 1 awC awO awR (fun _ => 1) (fun _ => 2)) = 511 := by
 refine (aw_ch 121 kn9).trans ?_
 have e : numL [97] (askS [121] kn9 (two8f (fun _ => 36) (fun _ => 1648)) (two8f 1 1)) (2 + 4) = [0, 0, 0, 0, 0, 0, 0, 1, 97, 0, 0, 0, 0, 0, 0, 0, 1, 121, 0, 0, 0, 0, 0, 0, 0, 40, 0, 0, 0, 0, 0, 0, 7, 235, 0, 0, 0, 0, 0, 0, 3, 245, 0, 0, 0, 0, 0, 0, 0, 4, 0, 0, 0, 0, 0, 0, 0, 9, 0, 0, 0, 0, 0, 0, 0, 64, 0, 0, 0, 0, 0, 0, 0, 48, 0, 0, 0, 0, 0, 0, 4, 0, 0, 0, 0, 0, 0, 0, 6, 54, 0, 0, 0, 0, 0, 0, 0, 42, 0, 0, 0, 0, 0, 0, 7, 144, 0, 0, 0, 0, 0, 0, 2, 160, 0, 0, 0, 0, 0, 0, 6, 47, 0, 0, 0, 0, 0, 0, 0, 48, 0, 0, 0, 0, 0, 0, 4, 0, 0, 0, 0, 0, 0, 0, 6, 54, 0, 0, 0, 0, 0, 0, 0, 42, 0, 0, 0, 0, 0, 0, 7, 144, 0, 0, 0, 0, 0, 0, 2, 160, 0, 0, 0, 0, 0, 0, 6, 47, 0, 0, 0, 0, 0, 0, 0, 8, 0, 0, 0, 0, 0, 0, 0, 36, 0, 0, 0, 0, 0, 0, 0, 8, 0, 0, 0, 0, 0, 0, 6, 112] := by decide +kernel
 exact zfO _ e (by unfold Bts; decide +kernel) (by decide) (by decide +kernel)
theorem aw_Z2 : chYZ 122 [97] 1013 kn9 1 (aF 2027 1013 4 9 awO (fun _ => 1)) (mxB 2027 1013 4 9 [97] 64 1 awC awO awR (fun _ => 1) (fun _ => 2)) = 620 := by
 refine (aw_ch 122 kn9).trans ?_
 have e : numL [97] (askS [122] kn9 (two8f (fun _ => 36) (fun _ => 1648)) (two8f 1 1)) (2 + 4) = [0, 0, 0, 0, 0, 0, 0, 1, 97, 0, 0, 0, 0, 0, 0, 0, 1, 122, 0, 0, 0, 0, 0, 0, 0, 40, 0, 0, 0, 0, 0, 0, 7, 235, 0, 0, 0, 0, 0, 0, 3, 245, 0, 0, 0, 0, 0, 0, 0, 4, 0, 0, 0, 0, 0, 0, 0, 9, 0, 0, 0, 0, 0, 0, 0, 64, 0, 0, 0, 0, 0, 0, 0, 48, 0, 0, 0, 0, 0, 0, 4, 0, 0, 0, 0, 0, 0, 0, 6, 54, 0, 0, 0, 0, 0, 0, 0, 42, 0, 0, 0, 0, 0, 0, 7, 144, 0, 0, 0, 0, 0, 0, 2, 160, 0, 0, 0, 0, 0, 0, 6, 47, 0, 0, 0, 0, 0, 0, 0, 48, 0, 0, 0, 0, 0, 0, 4, 0, 0, 0, 0, 0, 0, 0, 6, 54, 0, 0, 0, 0, 0, 0, 0, 42, 0, 0, 0, 0, 0, 0, 7, 144, 0, 0, 0, 0, 0, 0, 2, 160, 0, 0, 0, 0, 0, 0, 6, 47, 0, 0, 0, 0, 0, 0, 0, 8, 0, 0, 0, 0, 0, 0, 0, 36, 0, 0, 0, 0, 0, 0, 0, 8, 0, 0, 0, 0, 0, 0, 6, 112] := by decide +kernel
 exact zfO _ e (by unfold Bts; decide +kernel) (by decide) (by decide +kernel)
theorem aw_P : mxP 2027 1013 4 9 [97] 64 1 awC awO awR (fun _ => 1) (fun _ => 2) (fun _ => 3) 0 = 182 := by
 show bigI 2027 1013 4 (aF 2027 1013 4 9 awO (fun _ => 1) 0) (mxB 2027 1013 4 9 [97] 64 1 awC awO awR (fun _ => 1) (fun _ => 2) 0) (mxC 121 2027 1013 4 9 [97] 64 1 awC awO awR (fun _ => 1) (fun _ => 2)) (mxC 122 2027 1013 4 9 [97] 64 1 awC awO awR (fun _ => 1) (fun _ => 2)) = 182
 rw [aw_A, aw_B, aw_Y, aw_Z]
 decide +kernel
theorem aw_no (nk : Nat) (K : NI) (nz : Nat) (Xz : NI) : accG 2027 1013 4 9 [97] 64 1 awM 1 awM 1 (aF 2027 1013 4 9 awO (fun _ => 1)) 1 (mxB 2027 1013 4 9 [97] 64 1 awC awO awR (fun _ => 1) (fun _ => 2)) 1 (mxP 2027 1013 4 9 [97] 64 1 awC awO awR (fun _ => 1) (fun _ => 2) (fun _ => 3)) nk K nz Xz = false := by
 have hc : clmB 2027 1013 4 64 1 awM 1 awM 1 (aF 2027 1013 4 9 awO (fun _ => 1)) 1 (mxB 2027 1013 4 9 [97] 64 1 awC awO awR (fun _ => 1) (fun _ => 2)) 1 (mxP 2027 1013 4 9 [97] 64 1 awC awO awR (fun _ => 1) (fun _ => 2) (fun _ => 3)) 511 620 = false := by
  unfold clmB
  rw [aw_P, aw_A, aw_B, show decide ((182 : Int) = bigI 2027 1013 4 36 1648 511 620) = false from by decide +kernel]
  simp
 unfold accG accS
 rw [show chYZ 121 [97] 1013 (knwS 2027 1013 4 9 64 1 awM 1 awM) 1 _ _ = 511 from aw_Y2, show chYZ 122 [97] 1013 (knwS 2027 1013 4 9 64 1 awM 1 awM) 1 _ _ = 620 from aw_Z2, hc]
 simp
abbrev boxV : Value := .agg #[.int .u64 1, .int .u64 4, .int .u64 1, .int .u64 9, .int .u64 4, .int .u64 16]
abbrev boxA : Array Value := #[.int .u64 1, .int .u64 4, .int .u64 1, .int .u64 9, .int .u64 4, .int .u64 16]
theorem info_box : (prog.info? 74).map (·.size) = some 6 := by kernel_rfl
theorem box8_any (w : World) : Calls prog 47 #[] w (Ret w boxV) := by
 go_enter func47, ntmps47
 go_wp2_with fail
 exact bodyPost_ret (results_cell_row rfl _ _ _ _ _ (0, 0) _ rfl (heap_alloc_last _ _) U74 rfl info_box) rfl ⟨rfl, (Old.refl _).alloc _⟩
def rowK {S : TypeId} (n : Nat) (c : Array Value) (T : TypeId) (hT : S ≠ T) : Ent2 (OldT S) := .u (fun v w => ∃ b, v = .slice (some ⟨b, 0, none⟩) n n /\ w.heap[b]? = some (.cells c T (0, 0))) fun _ _ _ ⟨b, e, h⟩ ho => ⟨b, e, ho.row hT h⟩
def shP (base n : Nat) (M : NN) (A B Pp : NI) (nt : Nat) (K : NI) (nz : Nat) (Z : NI) : Ent2 (OldT 57) := .u (fun v w => ∃ bm cm ba ca bb cb bp cp bk ck bz cz, v = .tuple #[.slice bm n cm, .agg #[.slice ba n ca, .slice bb n cb, .slice bp n cp, .slice bk nt ck, .slice bz nz cz], .bool true] /\ BoxF w bm n M /\ Nums w base (.slice ba n ca) n A /\ Nums w base (.slice bb n cb) n B /\ Nums w base (.slice bp n cp) n Pp /\ Nums w base (.slice bk nt ck) nt K /\ Nums w base (.slice bz nz cz) nz Z)
 fun _ _ _ ⟨bm, cm, ba, ca, bb, cb, bp, cp, bk, ck, bz, cz, e, h, h1, h2, h3, h4, h5⟩ ho => ⟨bm, cm, ba, ca, bb, cb, bp, cp, bk, ck, bz, cz, e, h.oldT (by decide) ho, h1.oldT (by decide) ho, h2.oldT (by decide) ho, h3.oldT (by decide) ho, h4.oldT (by decide) ho, h5.oldT (by decide) ho⟩
def shM (n : Nat) (M : NN) : Ent2 (OldT 57) := .u (fun v w => ∃ bm cm, v = .slice bm n cm /\ BoxF w bm n M) fun _ _ _ ⟨bm, cm, e, h⟩ ho => ⟨bm, cm, e, h.oldT (by decide) ho⟩
def shA (base n : Nat) (A B Pp : NI) (nt : Nat) (K : NI) (nz : Nat) (Z : NI) : Ent2 (OldT 57) := .u (fun v w => ∃ ba ca bb cb bp cp bk ck bz cz, v = .agg #[.slice ba n ca, .slice bb n cb, .slice bp n cp, .slice bk nt ck, .slice bz nz cz] /\ Nums w base (.slice ba n ca) n A /\ Nums w base (.slice bb n cb) n B /\ Nums w base (.slice bp n cp) n Pp /\ Nums w base (.slice bk nt ck) nt K /\ Nums w base (.slice bz nz cz) nz Z)
 fun _ _ _ ⟨ba, ca, bb, cb, bp, cp, bk, ck, bz, cz, e, h1, h2, h3, h4, h5⟩ ho => ⟨ba, ca, bb, cb, bp, cp, bk, ck, bz, cz, e, h1.oldT (by decide) ho, h2.oldT (by decide) ho, h3.oldT (by decide) ho, h4.oldT (by decide) ho, h5.oldT (by decide) ho⟩
theorem aw_u64 : (∀ k, k < 6 -> U64 (bx8 k)) /\ (∀ k, k < 3 -> U64 (rh8 k)) := by unfold U64; decide
theorem boxs_one {w : World} {b : Nat} (h : w.heap[b]? = some (.cells boxA 74 (0, 0))) : BoxsIn w (some ⟨b, 0, none⟩) 1 awC := Or.inr ⟨b, 0, rfl, zag h, fun j hj k hk => ⟨by
 have : j = 0 := by omega
 subst this
 rw [show 0 + 0 * 6 + k = k by omega, cell_of_row _ _ k _ _ (0, 0) h]
 match k, hk with
 | 0, _ => rfl
 | 1, _ => rfl
 | 2, _ => rfl
 | 3, _ => rfl
 | 4, _ => rfl
 | 5, _ => rfl, aw_u64.1 k hk⟩⟩
theorem ints_one {w : World} {b : Nat} (h : w.heap[b]? = some (.cells #[.int .i64 0] 3 (0, 0))) : IntsIn w (some ⟨b, 0, none⟩) 1 awO := Or.inr ⟨b, 0, rfl, zag h, fun j hj => by
 have : j = 0 := by omega
 subst this
 exact ⟨(Y0 h).trans rfl, by decide, by decide⟩⟩
theorem rho_one {w : World} {b : Nat} (h : w.heap[b]? = some (.cells #[.int .u64 5, .int .u64 6, .int .u64 7] 63 (0, 0))) : RhoIn w (some ⟨b, 0, none⟩) 1 awR := Or.inr ⟨b, 0, rfl, zag h, fun j hj k hk => ⟨by
 have : j = 0 := by omega
 subst this
 rw [show 0 + 0 * 3 + k = k by omega, cell_of_row _ _ k _ _ (0, 0) h]
 match k, hk with
 | 0, _ => rfl
 | 1, _ => rfl
 | 2, _ => rfl, aw_u64.2 k hk⟩⟩
theorem num_one {w : World} {b : Nat} {x : Int} (hx : U64 x) (h : w.heap[b]? = some (.cells #[.int .u64 x] 22 (0, 0))) : FacsIn w (some ⟨b, 0, none⟩) 1 (fun _ => x) := Or.inr ⟨b, 0, rfl, zag h, fun j hj => by
 have : j = 0 := by omega
 subst this
 exact ⟨(Y0 h).trans rfl, hx⟩⟩
theorem num_ten {w : World} {b : Nat} (h : w.heap[b]? = some (.cells (madeCells #[Value.int .u64 0] 10) 22 (0, 0))) : FacsIn w (some ⟨b, 0, none⟩) 10 (fun _ => 0) := Or.inr ⟨b, 0, rfl, zag h, fun j hj => by
 refine ⟨?_, (show U64 0 from ⟨by decide, by decide⟩)⟩
 rw [Nat.zero_add, cell_of_row _ _ j _ _ (0, 0) h]
 simp [madeCells, hj, Nat.mod_one]⟩
theorem aw_mx : Mix8 2027 1013 4 9 64 1 awC awO awR (fun _ => 1) (fun _ => 2) (fun _ => 3) := ⟨zdq, aw_h, by decide +kernel, by decide, by decide, zaA.1 (by decide +kernel), (zaK.1 (show batB 2027 1013 1 awC = true by decide +kernel)).2, fun _ _ => (show (0 : Int) <= 1 by decide), fun _ _ => (show (0 : Int) <= 2 by decide), fun _ _ => (show (0 : Int) <= 3 by decide), fun _ _ k hk => (aw_u64.2 k hk).1⟩
theorem zbP {P : Program} (w : World) (b off : Nat) (ty : TypeId) (cs : Array Value) (d : TypeDesc) (hc : ∀ j v, cs[j]? = some v -> w.cell? ⟨b, off + j, none⟩ = some v) (hu : P.underlying ty = some d) (hd : aggD d = true) (hi : (P.info? ty).map (·.size) = some cs.size) :
  (loadVar ty ⟨b, off, none⟩).run P w = .ok (.agg cs) w := by
 have hl : (loadCells ⟨b, off, none⟩ cs.toList.length).run P w = .ok cs.toList.toArray w :=
  run_loadCells_list (P := P) w ⟨b, off, none⟩ cs.toList (fun j v hv => by
   have hadd : (⟨b, off, none⟩ : Addr).add j = ⟨b, off + j, none⟩ := by unfold Addr.add; split <;> simp_all
   rw [hadd]
   exact hc j v (by simpa using hv))
 obtain ⟨i, hq, hs⟩ := Option.map_eq_some_iff.1 hi
 have hagg : (isAgg ty).run P w = .ok true w := by
  unfold isAgg
  rw [Sem.run_bind, run_underlying hu w]
  cases d <;> simp_all [aggD]
 simp only [Array.length_toList, Array.toArray_toList] at hl
 simp [loadVar, Sem.run_bind, hagg, sizeOf, typeInfo, hq, hs, hl]
theorem stlv {P : Program} {ops : List Oper} {L0 : List Value} {E : List Ent} {R : World -> Prop} {dst : Option Tmp} {ty : TypeId} {pos : String} {after : Array Edge} {guard : Option (Nat × Bool)} {T : TypeId} {x : Operand} {p : Addr} {v : Value} (hc : ∀ wx, R wx -> (loadVar T p).run P wx = .ok v wx) (hg : zao E ⟨dst, .load T x, ty, pos, after, guard⟩ = some true := by rfl) (hx : ∀ t, Act.eval ⟨(fill ops E t 0 L0).toArray, []⟩ x = .pointer (some p) := by intro _; kernel_rfl) : StepT P ops L0 E R ⟨dst, .load T x, ty, pos, after, guard⟩ (.k v) :=
 stw hg fun t wx hR => by simp only [execOp, hx t, Instr.loadAt, Instr.sureAddr, Sem.run_bind, Sem.run_pure, Result.andThen_ok, hc wx hR]
theorem awake8_any (w : World) : Calls prog 12 #[] w (Ret w (.bool true)) := by
 have hmk : ∀ wx : World, (Instr.makeSlice 29 (.int .i64 10) (.int .i64 10)).run prog wx = .ok (.slice (some ⟨wx.heap.size, 0, none⟩) 10 10) (wx.alloc (.cells (madeCells #[Value.int .u64 0] 10) 22)) := fun wx => zaP 10 (by omega) wx
 go_enter func12, ntmps12
 go_upto_region 2 with (go_at_call 46; refine (small4_any _).mono ?_; rintro e w1 ⟨a, FA, rfl, hrow, ho1⟩)
 have HZ := lain1 w1 (gc 2027 1013 4 9 a 5 5) 25
 have HW := hid ho1
 have HG0 := fun w' ho => (HZ.then (W' := w') ho).row 0 (by simp)
 have HOw := hid (HW.out.trans HZ.old)
 clear hrow ho1 HZ HW
 generalize w1.alloc (.cells (gc 2027 1013 4 9 a 5 5) 25) = W at *
 obtain ⟨gb, hgb⟩ : ∃ gb, gb = w1.heap.size := ⟨_, rfl⟩
 have HG : Hid (∀ wx, Old W wx -> wx.heap[gb]? = some (.cells (gc 2027 1013 4 9 a 5 5) 25 (0, 0))) := by rw [hgb]; exact HG0
 rw [<- hgb]
 clear hgb HG0
 obtain ⟨s, hs⟩ : ∃ s, s = W.heap.size := ⟨_, rfl⟩
 have HD : Hid (∀ wx, Old ((((((W.alloc (.cells #[.int .u64 5, .int .u64 6, .int .u64 7] 63)).alloc (.cells #[.int .u64 1] 22)).alloc (.cells #[.int .u64 2] 22)).alloc (.cells #[.int .u64 3] 22)).alloc (.cells (madeCells #[Value.int .u64 0] 10) 22)).alloc (.cells (dvc (some ⟨s, 0, none⟩) 1 1 (some ⟨s + 1, 0, none⟩) 1 1 (some ⟨s + 1 + 1, 0, none⟩) 1 1 (some ⟨s + 1 + 1 + 1, 0, none⟩) 1 1 (some ⟨s + 1 + 1 + 1 + 1, 0, none⟩) 10 10) 31)) wx -> wx.heap[s]? = some (.cells #[.int .u64 5, .int .u64 6, .int .u64 7] 63 (0, 0)) /\ wx.heap[s + 1]? = some (.cells #[.int .u64 1] 22 (0, 0)) /\ wx.heap[s + 1 + 1]? = some (.cells #[.int .u64 2] 22 (0, 0)) /\ wx.heap[s + 1 + 1 + 1]? = some (.cells #[.int .u64 3] 22 (0, 0)) /\ wx.heap[s + 1 + 1 + 1 + 1]? = some (.cells (madeCells #[Value.int .u64 0] 10) 22 (0, 0)) /\ wx.heap[s + 1 + 1 + 1 + 1 + 1]? = some (.cells (dvc (some ⟨s, 0, none⟩) 1 1 (some ⟨s + 1, 0, none⟩) 1 1 (some ⟨s + 1 + 1, 0, none⟩) 1 1 (some ⟨s + 1 + 1 + 1, 0, none⟩) 1 1 (some ⟨s + 1 + 1 + 1 + 1, 0, none⟩) 10 10) 31 (0, 0))) := fun wx ho => by
  subst hs
  have L := ((((((Lain.nil W).add (by simp) #[.int .u64 5, .int .u64 6, .int .u64 7] 63).add (by simp) #[.int .u64 1] 22).add (by simp) #[.int .u64 2] 22).add (by simp) #[.int .u64 3] 22).add (by simp) (madeCells #[Value.int .u64 0] 10) 22).add (by simp) (dvc (some ⟨W.heap.size, 0, none⟩) 1 1 (some ⟨W.heap.size + 1, 0, none⟩) 1 1 (some ⟨W.heap.size + 1 + 1, 0, none⟩) 1 1 (some ⟨W.heap.size + 1 + 1 + 1, 0, none⟩) 1 1 (some ⟨W.heap.size + 1 + 1 + 1 + 1, 0, none⟩) 10 10) 31
  have M := L.then ho
  exact ⟨M.row 0 (by simp), M.row 1 (by simp), M.row 2 (by simp), M.row 3 (by simp), M.row 4 (by simp), M.row 5 (by simp)⟩
 have HOd : Hid (Old W ((((((W.alloc (.cells #[.int .u64 5, .int .u64 6, .int .u64 7] 63)).alloc (.cells #[.int .u64 1] 22)).alloc (.cells #[.int .u64 2] 22)).alloc (.cells #[.int .u64 3] 22)).alloc (.cells (madeCells #[Value.int .u64 0] 10) 22)).alloc (.cells (dvc (some ⟨s, 0, none⟩) 1 1 (some ⟨s + 1, 0, none⟩) 1 1 (some ⟨s + 1 + 1, 0, none⟩) 1 1 (some ⟨s + 1 + 1 + 1, 0, none⟩) 1 1 (some ⟨s + 1 + 1 + 1 + 1, 0, none⟩) 10 10) 31))) := ((((((Old.refl W).alloc _).alloc _).alloc _).alloc _).alloc _).alloc _
 go_upto_region 3 with fail
 rw [<- hs]
 clear hs hmk
 generalize (((((W.alloc (.cells #[.int .u64 5, .int .u64 6, .int .u64 7] 63)).alloc (.cells #[.int .u64 1] 22)).alloc (.cells #[.int .u64 2] 22)).alloc (.cells #[.int .u64 3] 22)).alloc (.cells (madeCells #[Value.int .u64 0] 10) 22)).alloc (.cells (dvc (some ⟨s, 0, none⟩) 1 1 (some ⟨s + 1, 0, none⟩) 1 1 (some ⟨s + 1 + 1, 0, none⟩) 1 1 (some ⟨s + 1 + 1 + 1, 0, none⟩) 1 1 (some ⟨s + 1 + 1 + 1 + 1, 0, none⟩) 10 10) 31) = V at *
 have HGv := hid fun wx (ho : Old V wx) => HG.out wx (HOd.out.trans ho)
 have HDv := hid fun wx (ho : Old V wx) => (HD.out wx ho).2.2.2.2.2
 have HPv : Hid (∀ wx b b2, Old V wx -> wx.heap[b]? = some (.cells boxA 74 (0, 0)) -> wx.heap[b2]? = some (.cells #[.int .i64 0] 3 (0, 0)) -> Calls prog 31 #[gv 2027 1013 4 9 a 5 5, .string ⟨#[97]⟩, .int .u64 64, .slice (some ⟨b, 0, none⟩) 1 1, .slice (some ⟨b2, 0, none⟩) 1 1, dv (some ⟨s, 0, none⟩) 1 1 (some ⟨s + 1, 0, none⟩) 1 1 (some ⟨s + 1 + 1, 0, none⟩) 1 1 (some ⟨s + 1 + 1 + 1, 0, none⟩) 1 1 (some ⟨s + 1 + 1 + 1 + 1, 0, none⟩) 10 10] wx (GivS wx true 1 awM (aF 2027 1013 4 9 awO (fun _ => 1)) (mxB 2027 1013 4 9 [97] 64 1 awC awO awR (fun _ => 1) (fun _ => 2)) (mxP 2027 1013 4 9 [97] 64 1 awC awO awR (fun _ => 1) (fun _ => 2) (fun _ => 3)) 10 (mxK 2027 1013 4 9 [97] 64 1 awC awO awR (fun _ => 1) (fun _ => 2) (fun _ => 3) (fun _ => 0)) 10 (mxZ 2027 1013 4 9 [97] 64 1 awC awO awR (fun _ => 1) (fun _ => 2) (fun _ => 3) (fun _ => 0)))) := fun wx b b2 ho hb hi => by
  obtain ⟨d0, d1, d2, d3, d4, _⟩ := HD.out wx ho
  have h := zdD 2027 1013 4 9 a 5 5 [97] 64 (some ⟨b, 0, none⟩) 1 1 awC (some ⟨b2, 0, none⟩) 1 1 awO (some ⟨s, 0, none⟩) 1 1 awR (some ⟨s + 1, 0, none⟩) 1 1 (fun _ => 1) (some ⟨s + 1 + 1, 0, none⟩) 1 1 (fun _ => 2) (some ⟨s + 1 + 1 + 1, 0, none⟩) 1 1 (fun _ => 3) (some ⟨s + 1 + 1 + 1 + 1, 0, none⟩) 10 10 (fun _ => 0) wx four_sm zdq aw_h ⟨by decide, by decide⟩ (by unfold Bts; decide) (by decide) (by decide) (by decide) (by decide) ⟨by decide, by decide⟩ (by decide) (boxs_one hb) (ints_one hi) (rho_one d0) (num_one ⟨by decide, by decide⟩ d1) (num_one ⟨by decide, by decide⟩ d2) (num_one ⟨by decide, by decide⟩ d3) (num_ten d4)
  rw [aw_mix, aw_drw, show strOfNums [97] = ⟨#[97]⟩ by decide +kernel] at h
  exact h
 have HBx : Hid (∀ wx, Calls prog 47 #[] wx (Ret wx boxV)) := fun wx => box8_any wx
 refine zfm (Rl := OldT 57) 14 [.k (gv 2027 1013 4 9 a 5 5), .k (boxV), rowK 1 boxA 74 (by decide), rowK 1 #[.int .i64 0] 3 (by decide), .k (dv (some ⟨s, 0, none⟩) 1 1 (some ⟨s + 1, 0, none⟩) 1 1 (some ⟨s + 1 + 1, 0, none⟩) 1 1 (some ⟨s + 1 + 1 + 1, 0, none⟩) 1 1 (some ⟨s + 1 + 1 + 1 + 1, 0, none⟩) 10 10), shP V.heap.size 1 awM (aF 2027 1013 4 9 awO (fun _ => 1)) (mxB 2027 1013 4 9 [97] 64 1 awC awO awR (fun _ => 1) (fun _ => 2)) (mxP 2027 1013 4 9 [97] 64 1 awC awO awR (fun _ => 1) (fun _ => 2) (fun _ => 3)) 10 (mxK 2027 1013 4 9 [97] 64 1 awC awO awR (fun _ => 1) (fun _ => 2) (fun _ => 3) (fun _ => 0)) 10 (mxZ 2027 1013 4 9 [97] 64 1 awC awO awR (fun _ => 1) (fun _ => 2) (fun _ => 3) (fun _ => 0)), shP V.heap.size 1 awM (aF 2027 1013 4 9 awO (fun _ => 1)) (mxB 2027 1013 4 9 [97] 64 1 awC awO awR (fun _ => 1) (fun _ => 2)) (mxP 2027 1013 4 9 [97] 64 1 awC awO awR (fun _ => 1) (fun _ => 2) (fun _ => 3)) 10 (mxK 2027 1013 4 9 [97] 64 1 awC awO awR (fun _ => 1) (fun _ => 2) (fun _ => 3) (fun _ => 0)) 10 (mxZ 2027 1013 4 9 [97] 64 1 awC awO awR (fun _ => 1) (fun _ => 2) (fun _ => 3) (fun _ => 0)), shM 1 awM, shA V.heap.size 1 (aF 2027 1013 4 9 awO (fun _ => 1)) (mxB 2027 1013 4 9 [97] 64 1 awC awO awR (fun _ => 1) (fun _ => 2)) (mxP 2027 1013 4 9 [97] 64 1 awC awO awR (fun _ => 1) (fun _ => 2) (fun _ => 3)) 10 (mxK 2027 1013 4 9 [97] 64 1 awC awO awR (fun _ => 1) (fun _ => 2) (fun _ => 3) (fun _ => 0)) 10 (mxZ 2027 1013 4 9 [97] 64 1 awC awO awR (fun _ => 1) (fun _ => 2) (fun _ => 3) (fun _ => 0)), .k (.bool true), varE 57 5 V.heap.size, shM 1 awM, putE 57 10 8 V.heap.size, .k (.bool true)] (Old V) (by kernel_rfl) (by kernel_rfl) rfl (by kernel_rfl) ((Old.refl _).drew) ?st ?_
 case st =>
  refine .c (stsy U25 HGv.out) <| .c (stKy old_R func47 (fun wx _ => HBx.out wx)) <| .c (stmy (ob := fun _ => .cells boxA 74) (v := fun s => .slice (some ⟨s, 0, none⟩) 1 1) old_R fun t wx hR hd => ⟨_, rfl, heap_alloc_last _ _⟩) <| .c (stmy (ob := fun _ => .cells #[.int .i64 0] 3) (v := fun s => .slice (some ⟨s, 0, none⟩) 1 1) old_R fun t wx hR hd => ⟨_, rfl, heap_alloc_last _ _⟩) <| .c (stsy U31 HDv.out) <| .c (stCy (args := fun t => #[gv 2027 1013 4 9 a 5 5, .string ⟨#[97]⟩, .int .u64 64, t 2, t 3, dv (some ⟨s, 0, none⟩) 1 1 (some ⟨s + 1, 0, none⟩) 1 1 (some ⟨s + 1 + 1, 0, none⟩) 1 1 (some ⟨s + 1 + 1 + 1, 0, none⟩) 1 1 (some ⟨s + 1 + 1 + 1 + 1, 0, none⟩) 10 10]) old_R func31 fun t wx hR hd => ?_) <| .c (stxy fun t wx hR hd => ⟨t 5, by kernel_rfl, hd 5 (by kernel_rfl)⟩) <| .c (stxy fun t wx hR hd => ?_) <| .c (stxy fun t wx hR hd => ?_) <| .c (stzy fun t wx hR hd => ?_) <| .c (stmy (ob := fun _ => .cells #[.slice none 0 0, .slice none 0 0, .slice none 0 0, .slice none 0 0, .slice none 0 0] 57) (v := fun s => .pointer (some ⟨s, 0, none⟩)) old_R fun t wx hR hd => ⟨_, rfl, hR.size, _, heap_alloc_last _ _, rfl⟩) <| .c (stxy fun t wx hR hd => ⟨t 7, by kernel_rfl, hd 7 (by kernel_rfl)⟩) <| .c (stPy (n := 5) (fun _ _ => True) (fun w g cells h hg => h.setRow hg cells) fun t wx hR hd => ?_) <| .c stpy .n
  ·obtain ⟨b, e2, hb⟩ : ∃ b, t 2 = .slice (some ⟨b, 0, none⟩) 1 1 /\ wx.heap[b]? = some (.cells boxA 74 (0, 0)) := hd 2 (by kernel_rfl)
   obtain ⟨b2, e3, hi⟩ : ∃ b, t 3 = .slice (some ⟨b, 0, none⟩) 1 1 /\ wx.heap[b]? = some (.cells #[.int .i64 0] 3 (0, 0)) := hd 3 (by kernel_rfl)
   rw [e2, e3]
   refine (HPv.out wx b b2 hR hb hi).mono ?_
   rintro e w' ⟨ho, bm, cm, va, vb, vp, vk, vz, rfl, h0, h1, h2, h3, h4, h5⟩
   simp only [if_true] at h0 h1 h2 h3 h4 h5
   obtain ⟨ba, ca, rfl⟩ := zau h1
   obtain ⟨bb, cb, rfl⟩ := zau h2
   obtain ⟨bp, cp, rfl⟩ := zau h3
   obtain ⟨bk, ck, rfl⟩ := zau h4
   obtain ⟨bz, cz, rfl⟩ := zau h5
   exact ⟨_, rfl, ho, bm, cm, ba, ca, bb, cb, bp, cp, bk, ck, bz, cz, rfl, h0, h1.mono hR.size, h2.mono hR.size, h3.mono hR.size, h4.mono hR.size, h5.mono hR.size⟩
  ·obtain ⟨bm, cm, ba, ca, bb, cb, bp, cp, bk, ck, bz, cz, e, hb, N1, N2, N3, N4, N5⟩ : ∃ bm cm ba ca bb cb bp cp bk ck bz cz, t 6 = .tuple #[.slice bm 1 cm, .agg #[.slice ba 1 ca, .slice bb 1 cb, .slice bp 1 cp, .slice bk 10 ck, .slice bz 10 cz], .bool true] /\ BoxF wx bm 1 awM /\ Nums wx V.heap.size (.slice ba 1 ca) 1 (aF 2027 1013 4 9 awO (fun _ => 1)) /\ Nums wx V.heap.size (.slice bb 1 cb) 1 (mxB 2027 1013 4 9 [97] 64 1 awC awO awR (fun _ => 1) (fun _ => 2)) /\ Nums wx V.heap.size (.slice bp 1 cp) 1 (mxP 2027 1013 4 9 [97] 64 1 awC awO awR (fun _ => 1) (fun _ => 2) (fun _ => 3)) /\ Nums wx V.heap.size (.slice bk 10 ck) 10 (mxK 2027 1013 4 9 [97] 64 1 awC awO awR (fun _ => 1) (fun _ => 2) (fun _ => 3) (fun _ => 0)) /\ Nums wx V.heap.size (.slice bz 10 cz) 10 (mxZ 2027 1013 4 9 [97] 64 1 awC awO awR (fun _ => 1) (fun _ => 2) (fun _ => 3) (fun _ => 0)) := hd 6 (by kernel_rfl)
   exact ⟨_, zfq (Eq.trans (b := t 6) (by kernel_rfl) e) rfl, bm, cm, rfl, hb⟩
  ·obtain ⟨bm, cm, ba, ca, bb, cb, bp, cp, bk, ck, bz, cz, e, hb, N1, N2, N3, N4, N5⟩ : ∃ bm cm ba ca bb cb bp cp bk ck bz cz, t 6 = .tuple #[.slice bm 1 cm, .agg #[.slice ba 1 ca, .slice bb 1 cb, .slice bp 1 cp, .slice bk 10 ck, .slice bz 10 cz], .bool true] /\ BoxF wx bm 1 awM /\ Nums wx V.heap.size (.slice ba 1 ca) 1 (aF 2027 1013 4 9 awO (fun _ => 1)) /\ Nums wx V.heap.size (.slice bb 1 cb) 1 (mxB 2027 1013 4 9 [97] 64 1 awC awO awR (fun _ => 1) (fun _ => 2)) /\ Nums wx V.heap.size (.slice bp 1 cp) 1 (mxP 2027 1013 4 9 [97] 64 1 awC awO awR (fun _ => 1) (fun _ => 2) (fun _ => 3)) /\ Nums wx V.heap.size (.slice bk 10 ck) 10 (mxK 2027 1013 4 9 [97] 64 1 awC awO awR (fun _ => 1) (fun _ => 2) (fun _ => 3) (fun _ => 0)) /\ Nums wx V.heap.size (.slice bz 10 cz) 10 (mxZ 2027 1013 4 9 [97] 64 1 awC awO awR (fun _ => 1) (fun _ => 2) (fun _ => 3) (fun _ => 0)) := hd 6 (by kernel_rfl)
   exact ⟨_, zfq (Eq.trans (b := t 6) (by kernel_rfl) e) rfl, ba, ca, bb, cb, bp, cp, bk, ck, bz, cz, rfl, N1, N2, N3, N4, N5⟩
  ·obtain ⟨bm, cm, ba, ca, bb, cb, bp, cp, bk, ck, bz, cz, e, hb, N1, N2, N3, N4, N5⟩ : ∃ bm cm ba ca bb cb bp cp bk ck bz cz, t 6 = .tuple #[.slice bm 1 cm, .agg #[.slice ba 1 ca, .slice bb 1 cb, .slice bp 1 cp, .slice bk 10 ck, .slice bz 10 cz], .bool true] /\ BoxF wx bm 1 awM /\ Nums wx V.heap.size (.slice ba 1 ca) 1 (aF 2027 1013 4 9 awO (fun _ => 1)) /\ Nums wx V.heap.size (.slice bb 1 cb) 1 (mxB 2027 1013 4 9 [97] 64 1 awC awO awR (fun _ => 1) (fun _ => 2)) /\ Nums wx V.heap.size (.slice bp 1 cp) 1 (mxP 2027 1013 4 9 [97] 64 1 awC awO awR (fun _ => 1) (fun _ => 2) (fun _ => 3)) /\ Nums wx V.heap.size (.slice bk 10 ck) 10 (mxK 2027 1013 4 9 [97] 64 1 awC awO awR (fun _ => 1) (fun _ => 2) (fun _ => 3) (fun _ => 0)) /\ Nums wx V.heap.size (.slice bz 10 cz) 10 (mxZ 2027 1013 4 9 [97] 64 1 awC awO awR (fun _ => 1) (fun _ => 2) (fun _ => 3) (fun _ => 0)) := hd 6 (by kernel_rfl)
   exact zfq (Eq.trans (b := t 6) (by kernel_rfl) e) rfl
  ·obtain ⟨ba, ca, bb, cb, bp, cp, bk, ck, bz, cz, e8, _⟩ : ∃ ba ca bb cb bp cp bk ck bz cz, t 8 = .agg #[.slice ba 1 ca, .slice bb 1 cb, .slice bp 1 cp, .slice bk 10 ck, .slice bz 10 cz] /\ _ := hd 8 (by kernel_rfl)
   obtain ⟨b, e10, hb, cs, hcs, hs⟩ : ∃ b, t 10 = .pointer (some ⟨b, 0, none⟩) /\ V.heap.size <= b /\ ∃ cs, wx.heap[b]? = some (.cells cs 57 (0, 0)) /\ cs.size = 5 := hd 10 (by kernel_rfl)
   exact ⟨b, _, cs, e10, e8, hb, hcs, hs, rfl, by simp [Value.oneCell']⟩
 intro t wx hR hk
 simp only [fill2, Ent2.val, rowK, shP, shM, shA, varE, putE, Ls0, Ls1, Ld1, Ld0, Ldn]
 obtain ⟨bm, cm, e11, hbm⟩ : ∃ bm cm, t 11 = .slice bm 1 cm /\ BoxF wx bm 1 awM := hk 11 (by omega)
 obtain ⟨ps, cs, e12, hps, hrow⟩ : ∃ b cs, [t 10, t 8] = [.pointer (some ⟨b, 0, none⟩), .agg cs] /\ V.heap.size <= b /\ wx.heap[b]? = some (.cells cs 57 (0, 0)) := hk 12 (by omega)
 obtain ⟨ba, ca, bb, cb, bp, cp, bk, ck, bz, cz, e8, N1, N2, N3, N4, N5⟩ : ∃ ba ca bb cb bp cp bk ck bz cz, t 8 = .agg #[.slice ba 1 ca, .slice bb 1 cb, .slice bp 1 cp, .slice bk 10 ck, .slice bz 10 cz] /\ Nums wx V.heap.size (.slice ba 1 ca) 1 (aF 2027 1013 4 9 awO (fun _ => 1)) /\ Nums wx V.heap.size (.slice bb 1 cb) 1 (mxB 2027 1013 4 9 [97] 64 1 awC awO awR (fun _ => 1) (fun _ => 2)) /\ Nums wx V.heap.size (.slice bp 1 cp) 1 (mxP 2027 1013 4 9 [97] 64 1 awC awO awR (fun _ => 1) (fun _ => 2) (fun _ => 3)) /\ Nums wx V.heap.size (.slice bk 10 ck) 10 (mxK 2027 1013 4 9 [97] 64 1 awC awO awR (fun _ => 1) (fun _ => 2) (fun _ => 3) (fun _ => 0)) /\ Nums wx V.heap.size (.slice bz 10 cz) 10 (mxZ 2027 1013 4 9 [97] 64 1 awC awO awR (fun _ => 1) (fun _ => 2) (fun _ => 3) (fun _ => 0)) := hk 8 (by omega)
 rw [e8] at e12
 have e10 : t 10 = .pointer (some ⟨ps, 0, none⟩) := by injection e12
 have ecs : cs = #[.slice ba 1 ca, .slice bb 1 cb, .slice bp 1 cp, .slice bk 10 ck, .slice bz 10 cz] := by
  injection e12 with _ e12
  injection e12 with e12 _
  injection e12 with e12
  exact e12.symm
 subst ecs
 rw [e10, e11]
 clear e8 e10 e11 e12 hk
 have HV := hid hR
 rcases hbm with h0 | ⟨mb, mcs, rfl, hmb, hmc⟩
 ·cases h0
 have HM : Hid (∀ wy, Old wx wy -> BoxsIn wy (some ⟨mb, 0, none⟩) 1 awM) := fun wy ho => (BoxF.boxs (Or.inr ⟨mb, mcs, rfl, hmb, hmc⟩)).old ho
 have HMl : Hid (∀ wy, Old wx wy -> (loadVar 74 ⟨mb, 0, none⟩).run prog wy = .ok (.agg #[.int .u64 1024, .int .u64 1590, .int .u64 42, .int .u64 1936, .int .u64 672, .int .u64 1583]) wy) := fun wy ho => zbP wy mb 0 _ _ _ (fun j v hv => by
  have hh := (ho.block _ (zag hmb)).trans hmb
  rw [Nat.zero_add, cell_of_row _ _ j _ _ (0, 0) hh]
  have hj : j < 6 := (Array.getElem?_eq_some_iff.1 hv).1
  have := (hmc 0 (by omega) j hj).1
  rw [aw_M j hj, Nat.zero_mul, Nat.zero_add] at this
  rw [this, <- hv]
  match j, hj with
  | 0, _ => rfl
  | 1, _ => rfl
  | 2, _ => rfl
  | 3, _ => rfl
  | 4, _ => rfl
  | 5, _ => rfl) U74 rfl info_box
 have HSr := hid fun wy (ho : Old wx wy) => (ho.block _ (zag hrow)).trans hrow
 have HGx := hid fun wy (ho : Old wx wy) => HGv.out wy (HV.out.trans ho)
 have uA : ∀ i, i < 1 -> U64 ((aF 2027 1013 4 9 awO (fun _ => 1)) i) := fun i _ => zaQ _ _ _ _ _ _
 have uB : ∀ i, i < 1 -> U64 ((mxB 2027 1013 4 9 [97] 64 1 awC awO awR (fun _ => 1) (fun _ => 2)) i) := fun i _ => zaQ _ _ _ _ _ _
 have uP : ∀ i, i < 1 -> U64 ((mxP 2027 1013 4 9 [97] 64 1 awC awO awR (fun _ => 1) (fun _ => 2) (fun _ => 3)) i) := fun i _ => zfN _ _ _ _ _ _ _ _ _ _ _ i
 have uK : ∀ i, i < 10 -> U64 ((mxK 2027 1013 4 9 [97] 64 1 awC awO awR (fun _ => 1) (fun _ => 2) (fun _ => 3) (fun _ => 0)) i) := fun i _ => zdm _ _ _
 have uZ : ∀ i, i < 10 -> U64 ((mxZ 2027 1013 4 9 [97] 64 1 awC awO awR (fun _ => 1) (fun _ => 2) (fun _ => 3) (fun _ => 0)) i) := fun i _ => zeH _ _ _ _
 obtain ⟨_, _, E1, q1, q2, f1⟩ := N1.facs2 uA
 obtain ⟨_, _, E2, q3, q4, f2⟩ := N2.facs2 uB
 obtain ⟨_, _, E3, _, _, f3⟩ := N3.facs2 uP
 obtain ⟨_, _, E4, _, _, f4⟩ := N4.facs2 uK
 obtain ⟨_, _, E5, _, _, f5⟩ := N5.facs2 uZ
 cases E1
 cases E2
 cases E3
 cases E4
 cases E5
 have HAc : Hid (∀ wy (bi : OA) (C : NN) (ci co : Nat) r, Old wx wy -> BoxsIn wy bi 1 C -> accG 2027 1013 4 9 [97] 64 1 C 1 awM 1 (aF 2027 1013 4 9 awO (fun _ => 1)) 1 (mxB 2027 1013 4 9 [97] 64 1 awC awO awR (fun _ => 1) (fun _ => 2)) 1 (mxP 2027 1013 4 9 [97] 64 1 awC awO awR (fun _ => 1) (fun _ => 2) (fun _ => 3)) 10 (mxK 2027 1013 4 9 [97] 64 1 awC awO awR (fun _ => 1) (fun _ => 2) (fun _ => 3) (fun _ => 0)) 10 (mxZ 2027 1013 4 9 [97] 64 1 awC awO awR (fun _ => 1) (fun _ => 2) (fun _ => 3) (fun _ => 0)) = r -> Calls prog 34 #[gv 2027 1013 4 9 a 5 5, .string ⟨#[97]⟩, .int .u64 64, .slice bi 1 ci, .slice (some ⟨mb, 0, none⟩) 1 co, .agg #[.slice ba 1 ca, .slice bb 1 cb, .slice bp 1 cp, .slice bk 10 ck, .slice bz 10 cz]] wy (Ret wy (.bool r))) := fun wy bi C ci co r ho hb hr => by
  have h := zgb 2027 1013 4 9 a 5 5 [97] 64 bi 1 ci C (some ⟨mb, 0, none⟩) 1 co awM ba 1 ca _ bb 1 cb _ bp 1 cp _ bk 10 ck _ bz 10 cz _ wy four_sm zdq ⟨by decide, by decide⟩ (by unfold Bts; decide) (by decide) (by decide) ⟨q1, q2⟩ ⟨q3, q4⟩ (by decide) hb (HM.out wy ho) (f1.old ho) (f2.old ho) (f3.old ho) (f4.old ho) (f5.old ho)
  rw [show strOfNums [97] = ⟨#[97]⟩ by decide +kernel, hr] at h
  exact h
 have HYes : Hid (accG 2027 1013 4 9 [97] 64 1 awC 1 awM 1 (aF 2027 1013 4 9 awO (fun _ => 1)) 1 (mxB 2027 1013 4 9 [97] 64 1 awC awO awR (fun _ => 1) (fun _ => 2)) 1 (mxP 2027 1013 4 9 [97] 64 1 awC awO awR (fun _ => 1) (fun _ => 2) (fun _ => 3)) 10 (mxK 2027 1013 4 9 [97] 64 1 awC awO awR (fun _ => 1) (fun _ => 2) (fun _ => 3) (fun _ => 0)) 10 (mxZ 2027 1013 4 9 [97] 64 1 awC awO awR (fun _ => 1) (fun _ => 2) (fun _ => 3) (fun _ => 0)) = true) := aw_mx.accG [97] fun k _ => Int.le_refl 0
 have HNo : Hid (accG 2027 1013 4 9 [97] 64 1 awM 1 awM 1 (aF 2027 1013 4 9 awO (fun _ => 1)) 1 (mxB 2027 1013 4 9 [97] 64 1 awC awO awR (fun _ => 1) (fun _ => 2)) 1 (mxP 2027 1013 4 9 [97] 64 1 awC awO awR (fun _ => 1) (fun _ => 2) (fun _ => 3)) 10 (mxK 2027 1013 4 9 [97] 64 1 awC awO awR (fun _ => 1) (fun _ => 2) (fun _ => 3) (fun _ => 0)) 10 (mxZ 2027 1013 4 9 [97] 64 1 awC awO awR (fun _ => 1) (fun _ => 2) (fun _ => 3) (fun _ => 0)) = false) := aw_no _ _ _ _
 clear N1 N2 N3 N4 N5 f1 f2 f3 f4 f5 uA uB uP uK uZ hR hrow hmb hmc hps HPv HGv HDv HD HG q1 q2 q3 q4
 generalize aF 2027 1013 4 9 awO (fun _ => 1) = lA at *
 generalize mxB 2027 1013 4 9 [97] 64 1 awC awO awR (fun _ => 1) (fun _ => 2) = lB at *
 generalize mxP 2027 1013 4 9 [97] 64 1 awC awO awR (fun _ => 1) (fun _ => 2) (fun _ => 3) = lP at *
 generalize mxK 2027 1013 4 9 [97] 64 1 awC awO awR (fun _ => 1) (fun _ => 2) (fun _ => 3) (fun _ => 0) = lK at *
 generalize mxZ 2027 1013 4 9 [97] 64 1 awC awO awR (fun _ => 1) (fun _ => 2) (fun _ => 3) (fun _ => 0) = lZ at *
 go_upto_region 4 with fail
 refine zaa 30 [.k (.bool true), .k (.bool true), .k (.slice (some ⟨mb, 0, none⟩) 1 cm), .k (.int .i64 (1 : Nat)), .k (.bool true), .k (.bool true), .k (.bool true), .k (.slice (some ⟨mb, 0, none⟩) 1 cm), .k (.pointer (some ⟨mb, 0 * 6, none⟩)), .k (.agg #[.int .u64 1024, .int .u64 1590, .int .u64 42, .int .u64 1936, .int .u64 672, .int .u64 1583]), .k (boxV), .k (.bool true), .k (.bool true), .k (.bool true), .k (gv 2027 1013 4 9 a 5 5), .k (boxV), blkE 1 boxA 74, .k (.slice (some ⟨mb, 0, none⟩) 1 cm), .k (.agg #[.slice ba 1 ca, .slice bb 1 cb, .slice bp 1 cp, .slice bk 10 ck, .slice bz 10 cz]), .k (.bool true), .k (.bool true), .k (.bool true), .k (gv 2027 1013 4 9 a 5 5), .k (.slice (some ⟨mb, 0, none⟩) 1 cm), .k (.slice (some ⟨mb, 0, none⟩) 1 cm), .k (.agg #[.slice ba 1 ca, .slice bb 1 cb, .slice bp 1 cp, .slice bk 10 ck, .slice bz 10 cz]), .k (.bool false), .k (.bool true), .k (.bool true), .k (.bool true)] (Old wx) (by kernel_rfl) (by kernel_rfl) rfl ((Old.refl _).drew) ?st ?_
 case st =>
  refine .p <| .p <| .p <| .p <| .p <| .p <| .p <| .p <| .c (stj0 (n := 1) (c := cm) 6 (by omega) U26) <| .c (stlv HMl.out) <| .c (stK old_R func47 (fun wx _ => HBx.out wx)) <| .p <| .p <| .p <| .c (sts U25 HGx.out) <| .c (stK old_R func47 (fun wx _ => HBx.out wx)) <| .c (stm (ob := fun t => .cells boxA 74) (v := fun s => .slice (some ⟨s, 0, none⟩) 1 1) old_R fun t wx hR hd => ⟨_, rfl, heap_alloc_last _ _⟩) <| .p <| .c (sts U57 HSr.out) <| .c (stC (args := fun t => #[gv 2027 1013 4 9 a 5 5, .string ⟨#[97]⟩, .int .u64 64, t 16, .slice (some ⟨mb, 0, none⟩) 1 cm, .agg #[.slice ba 1 ca, .slice bb 1 cb, .slice bp 1 cp, .slice bk 10 ck, .slice bz 10 cz]]) old_R func34 fun t wy hR hd => ?_) <| .p <| .p <| .c (sts U25 HGx.out) <| .p <| .p <| .c (sts U57 HSr.out) <| .c (stK old_R func34 (fun wy ho => HAc.out wy (some ⟨mb, 0, none⟩) awM cm cm false ho (HM.out wy ho) HNo.out)) <| .p <| .p <| .c stp .n
  ·obtain ⟨b, e, hb⟩ : ∃ b, t 16 = .slice (some ⟨b, 0, none⟩) 1 1 /\ wy.heap[b]? = some (.cells boxA 74 (0, 0)) := hd 16 (by kernel_rfl)
   rw [e]
   exact (HAc.out wy (some ⟨b, 0, none⟩) awC 1 cm true hR (boxs_one hb) HYes.out).mono fun r w' ⟨h, k⟩ => ⟨_, h, k, rfl⟩
 intro t wz hR hk
 simp only [fill, Ent.val, blkE, Ls0, Ls1, Ld1, Ld0, Ldn]
 have HO9 := hid ((HOw.out.trans HOd.out).trans (HV.out.trans hR))
 clear hR hk
 go_wp2_with fail
 go_ret
 exact ⟨rfl, HO9.out⟩
end
section
open Go Go.RowKit
theorem zgf : (prog.info? 69).map (·.size) = some 2 := by kernel_rfl
theorem zbU (w : World) (c : Array Value) (off : Nat) (x y : Value) (h : c.extract off (off + 2) = #[x, y]) : (part 69 c off).run prog w = .ok (.agg #[x, y]) w := by
 obtain ⟨i, hi, hs⟩ := Option.map_eq_some_iff.1 zgf
 have hag : (isAgg 69).run prog w = .ok true w := by
  unfold isAgg
  rw [Sem.run_bind, run_underlying U69 w]
  simp
 unfold part
 simp [Sem.run_bind, hag, sizeOf, typeInfo, hi, hs, h]
theorem pair_eq8 (w : World) (d : Nat) (a b a' b' : Int) : (Op.equalIn (d + 1 + 1) 69 (.agg #[.int .u64 a, .int .u64 b]) (.agg #[.int .u64 a', .int .u64 b'])).run prog w = .ok (a == a' && b == b') w := by
 rw [run_equalIn_agg w (d + 1) _ _ _ (by kernel_rfl) (by kernel_rfl)]
 have hu := U69
 have hi := U22
 unfold Program.fieldsOf
 rw [hu]
 dsimp only
 have hp : ∀ (c : Array Value) (off : Nat) (v : Value) (w : World), c[off]? = some v -> (part 22 c off).run prog w = .ok v w := fun c off v w h => by
  have hag : (isAgg 22).run prog w = .ok false w := by
   unfold isAgg
   rw [Sem.run_bind, run_underlying hi w]
   simp
  unfold part
  simp [Sem.run_bind, hag, h]
 simp only [Op.eqFields, Sem.run_bind]
 simp [hp, run_equalIn_int _ _ _ _ _ _ _ hi, Sem.run_bind]
 by_cases h1 : a = a' <;> by_cases h2 : b = b' <;> simp [h1, h2]
theorem box_eq8 (w : World) (d : Nat) (a0 a1 a2 a3 a4 a5 b0 b1 b2 b3 b4 b5 : Int) : (Op.equalIn (d + 1 + 1 + 1) 74 (.agg #[.int .u64 a0, .int .u64 a1, .int .u64 a2, .int .u64 a3, .int .u64 a4, .int .u64 a5]) (.agg #[.int .u64 b0, .int .u64 b1, .int .u64 b2, .int .u64 b3, .int .u64 b4, .int .u64 b5])).run prog w = .ok (decide (a0 = b0 /\ a1 = b1 /\ a2 = b2 /\ a3 = b3 /\ a4 = b4 /\ a5 = b5)) w := by
 obtain ⟨i, hi, hs⟩ := Option.map_eq_some_iff.1 zgf
 have hc : prog.cellsOf 69 = 2 := by kernel_rfl
 rw [run_equalIn_array w (d + 1 + 1) _ _ U74 hi, hc, show List.range 3 = [0, 1, 2] from rfl]
 have p0 := zbU w #[.int .u64 a0, .int .u64 a1, .int .u64 a2, .int .u64 a3, .int .u64 a4, .int .u64 a5] (0 * 2) (.int .u64 a0) (.int .u64 a1) rfl
 have p1 := zbU w #[.int .u64 a0, .int .u64 a1, .int .u64 a2, .int .u64 a3, .int .u64 a4, .int .u64 a5] (1 * 2) (.int .u64 a2) (.int .u64 a3) rfl
 have p2 := zbU w #[.int .u64 a0, .int .u64 a1, .int .u64 a2, .int .u64 a3, .int .u64 a4, .int .u64 a5] (2 * 2) (.int .u64 a4) (.int .u64 a5) rfl
 have q0 := zbU w #[.int .u64 b0, .int .u64 b1, .int .u64 b2, .int .u64 b3, .int .u64 b4, .int .u64 b5] (0 * 2) (.int .u64 b0) (.int .u64 b1) rfl
 have q1 := zbU w #[.int .u64 b0, .int .u64 b1, .int .u64 b2, .int .u64 b3, .int .u64 b4, .int .u64 b5] (1 * 2) (.int .u64 b2) (.int .u64 b3) rfl
 have q2 := zbU w #[.int .u64 b0, .int .u64 b1, .int .u64 b2, .int .u64 b3, .int .u64 b4, .int .u64 b5] (2 * 2) (.int .u64 b4) (.int .u64 b5) rfl
 simp only [Op.eqItems, Sem.run_bind, Sem.run_ite, p0, p1, p2, q0, q1, q2, Result.andThen_ok, pair_eq8, Sem.run_pure]
 by_cases h0 : a0 = b0 <;> by_cases h1 : a1 = b1 <;> by_cases h2 : a2 = b2 <;> by_cases h3 : a3 = b3 <;> by_cases h4 : a4 = b4 <;> by_cases h5 : a5 = b5 <;> simp [h0, h1, h2, h3, h4, h5]
theorem run_neq_box (w : World) (ev : Operand -> Value) (x y : Operand) (dst : Option Tmp) (ty t2 : TypeId) (pos : String) (after : Array Edge) (guard : Option (Nat × Bool)) (a0 a1 a2 a3 a4 a5 b0 b1 b2 b3 b4 b5 : Int) (hx : ev x = .agg #[.int .u64 a0, .int .u64 a1, .int .u64 a2, .int .u64 a3, .int .u64 a4, .int .u64 a5]) (hy : ev y = .agg #[.int .u64 b0, .int .u64 b1, .int .u64 b2, .int .u64 b3, .int .u64 b4, .int .u64 b5]) : (execOp ev ⟨dst, .binOp .neq 74 x y t2, ty, pos, after, guard⟩).run prog w = .ok (.value (.bool (!(decide (a0 = b0 /\ a1 = b1 /\ a2 = b2 /\ a3 = b3 /\ a4 = b4 /\ a5 = b5))))) w := by
 have hm : prog.eqGuardType prog.depth 74 = false := by kernel_rfl
 simp only [execOp, hx, hy]
 go_simp
 rw [show (10000 : Nat) = 9997 + 1 + 1 + 1 from rfl, box_eq8]
 simp
abbrev bx6 (F : NI) : Value := .agg #[.int .u64 (F 0), .int .u64 (F 1), .int .u64 (F 2), .int .u64 (F 3), .int .u64 (F 4), .int .u64 (F 5)]
abbrev bx6a (F : NI) : Array Value := #[.int .u64 (F 0), .int .u64 (F 1), .int .u64 (F 2), .int .u64 (F 3), .int .u64 (F 4), .int .u64 (F 5)]
def eqb6 (F G : NI) : Bool := decide (F 0 = G 0 /\ F 1 = G 1 /\ F 2 = G 2 /\ F 3 = G 3 /\ F 4 = G 4 /\ F 5 = G 5)
theorem eqb6_iff {F G : NI} : eqb6 F G = true ↔ ∀ k, k < 6 -> F k = G k := by
 unfold eqb6
 rw [decide_eq_true_iff]
 constructor
 ·rintro ⟨h0, h1, h2, h3, h4, h5⟩ k hk
  match k, hk with
  | 0, _ => exact h0
  | 1, _ => exact h1
  | 2, _ => exact h2
  | 3, _ => exact h3
  | 4, _ => exact h4
  | 5, _ => exact h5
 ·intro h
  exact ⟨h 0 (by omega), h 1 (by omega), h 2 (by omega), h 3 (by omega), h 4 (by omega), h 5 (by omega)⟩
theorem box_load8 (w : World) (b off : Nat) (F : NI) (h : ∀ k, k < 6 -> w.cell? ⟨b, off + k, none⟩ = some (.int .u64 (F k))) : (loadVar 74 ⟨b, off, none⟩).run prog w = .ok (bx6 F) w :=
 zbP w b off _ (bx6a F) _ (fun j v hv => by
  match j, (show j < 6 from (Array.getElem?_eq_some_iff.1 hv).1) with
  | 0, _ => exact (h 0 (by omega)).trans hv
  | 1, _ => exact (h 1 (by omega)).trans hv
  | 2, _ => exact (h 2 (by omega)).trans hv
  | 3, _ => exact (h 3 (by omega)).trans hv
  | 4, _ => exact (h 4 (by omega)).trans hv
  | 5, _ => exact (h 5 (by omega)).trans hv) U74 rfl info_box
theorem stnb {ops : List Oper} {L0 : List Value} {E : List Ent} {R : World -> Prop} {dst : Option Tmp} {ty t2 : TypeId} {pos : String} {after : Array Edge} {guard : Option (Nat × Bool)} {x y : Operand} {r : Bool} (F G : NI) (he : (!(eqb6 F G)) = r) (hg : zao E ⟨dst, .binOp .neq 74 x y t2, ty, pos, after, guard⟩ = some true := by rfl) (hx : ∀ t, Act.eval ⟨(fill ops E t 0 L0).toArray, []⟩ x = bx6 F := by intro _; kernel_rfl) (hy : ∀ t, Act.eval ⟨(fill ops E t 0 L0).toArray, []⟩ y = bx6 G := by intro _; kernel_rfl) : StepT prog ops L0 E R ⟨dst, .binOp .neq 74 x y t2, ty, pos, after, guard⟩ (.k (.bool r)) :=
 stw hg fun t wx hR => by rw [run_neq_box wx _ x y dst ty t2 pos after guard _ _ _ _ _ _ _ _ _ _ _ _ (hx t) (hy t)]; unfold eqb6 at he; rw [he]
end
section
open Go.RowKit
def samB (n m : Nat) (C D : NN) : Bool := decide (n = m) && (List.range n).all fun j => eqb6 (C j) (D j)
theorem zfZ {n m : Nat} {C D : NN} : samB n m C D = true ↔ n = m /\ ∀ j, j < n -> ∀ k, k < 6 -> C j k = D j k := by
 unfold samB
 simp only [Bool.and_eq_true_iff, decide_eq_true_eq, List.all_eq_true, List.mem_range, eqb6_iff]
theorem zfa (b1 : OA) (n1 c1 : Nat) (C : NN) (b2 : OA) (n2 c2 : Nat) (D : NN) (w : World) (m1 : n1 <= 9223372036854775807) (h1 : BoxsIn w b1 n1 C) (h2 : BoxsIn w b2 n2 D) :
  Calls prog 17 #[.slice b1 n1 c1, .slice b2 n2 c2] w (Ret w (.bool (samB n1 n2 C D))) := by
 have HX : Hid (BoxsIn w b1 n1 C) := h1
 have HY : Hid (BoxsIn w b2 n2 D) := h2
 clear h1 h2
 by_cases hn : n1 = n2
 ·subst hn
  go_enter func17, ntmps17
  go_wp2_with fail
  go_loopw [5] (fun iv wx => ∃ i : Nat, iv = .int .i64 (i : Int) /\ i <= n1 /\ Hid (Old w wx) /\ Hid (∀ j, j < i -> ∀ k, k < 6 -> C j k = D j k)) (fun iv _ => n1 - (intOf iv).toNat)
  case atStart => exact ⟨0, rfl, Nat.zero_le _, Old.refl _, fun j hj => by omega⟩
  case round =>
   obtain ⟨i, rfl, hi, HO, HJ⟩ := hrel
   by_cases hlt : i < n1
   ·rcases HX.out with h0 | ⟨bx, ox, hqx, _, hrx⟩
    ·omega
    rcases HY.out with h0 | ⟨by_, oy, hqy, _, hry⟩
    ·omega
    have HLx : Hid (∀ wx, Old wr wx -> (loadVar 74 ⟨bx, ox + i * 6, none⟩).run prog wx = .ok (bx6 (C i)) wx) := fun wx ho => box_load8 wx bx _ _ fun k hk => (HO.out.trans ho).cellOf (hrx i hlt k hk).1
    have HLy : Hid (∀ wx, Old wr wx -> (loadVar 74 ⟨by_, oy + i * 6, none⟩).run prog wx = .ok (bx6 (D i)) wx) := fun wx ho => box_load8 wx by_ _ _ fun k hk => (HO.out.trans ho).cellOf (hry i hlt k hk).1
    clear hrx hry
    subst hqx hqy
    cases he : eqb6 (C i) (D i) with
    | true =>
     have HM : Hid (∀ k, k < 6 -> C i k = D i k) := eqb6_iff.1 he
     have HE : Hid ((!(eqb6 (C i) (D i))) = false) := by unfold Hid; rw [he]; rfl
     clear he
     go_upto_region 6 with fail
     refine zaa 9 [.k (.slice (some ⟨bx, ox, none⟩) n1 c1), .k (.int .i64 (i : Int)), .k (.pointer (some ⟨bx, ox + i * 6, none⟩)), .k (bx6 (C i)), .k (.slice (some ⟨by_, oy, none⟩) n1 c2), .k (.int .i64 (i : Int)), .k (.pointer (some ⟨by_, oy + i * 6, none⟩)), .k (bx6 (D i)), .k (.bool false)] (Old wr) (by kernel_rfl) (by kernel_rfl) rfl ((Old.refl _).drew) ?st ?_
     case st =>
      refine .p <| .p <| .c (stj (n := n1) (c := c1) 6 hlt U26) <| .c (stlv HLx.out) <| .p <| .p <| .c (stj (n := n1) (c := c2) 6 hlt U26) <| .c (stlv HLy.out) <| .c (stnb (C i) (D i) HE.out) .n
     intro t wz hR hk
     simp only [fill, Ent.val, Ls0, Ls1, Ld1, Ld0, Ldn]
     have HO2 : Hid (Old w wz) := HO.out.trans hR
     clear hR hk
     go_wp2_with fail
     go_roundw
     case rel => exact ⟨i + 1, zab i, by omega, HO2, zav HJ.out HM.out⟩
     case measure => simp [intOf]; omega
    | false =>
     have HN : Hid (samB n1 n1 C D = false) := no_of fun hc => by have := eqb6_iff.2 ((zfZ.1 hc).2 i hlt); rw [he] at this; cases this
     have HE : Hid ((!(eqb6 (C i) (D i))) = true) := by unfold Hid; rw [he]; rfl
     clear he
     go_upto_region 6 with fail
     refine zaa 9 [.k (.slice (some ⟨bx, ox, none⟩) n1 c1), .k (.int .i64 (i : Int)), .k (.pointer (some ⟨bx, ox + i * 6, none⟩)), .k (bx6 (C i)), .k (.slice (some ⟨by_, oy, none⟩) n1 c2), .k (.int .i64 (i : Int)), .k (.pointer (some ⟨by_, oy + i * 6, none⟩)), .k (bx6 (D i)), .k (.bool true)] (Old wr) (by kernel_rfl) (by kernel_rfl) rfl ((Old.refl _).drew) ?st ?_
     case st =>
      refine .p <| .p <| .c (stj (n := n1) (c := c1) 6 hlt U26) <| .c (stlv HLx.out) <| .p <| .p <| .c (stj (n := n1) (c := c2) 6 hlt U26) <| .c (stlv HLy.out) <| .c (stnb (C i) (D i) HE.out) .n
     intro t wz hR hk
     simp only [fill, Ent.val, Ls0, Ls1, Ld1, Ld0, Ldn]
     have HO2 : Hid (Old w wz) := HO.out.trans hR
     clear hR hk
     go_wp2_with fail
     go_ret
     exact ⟨zad HN.out.symm, HO2.out⟩
   ·have he : n1 = i := by omega
    subst he
    have HN : Hid (samB n1 n1 C D = true) := zfZ.2 ⟨rfl, HJ.out⟩
    go_wp2_with fail
    go_ret
    exact ⟨zad HN.out.symm, HO.out⟩
 ·have HN : Hid (samB n1 n2 C D = false) := no_of fun hc => hn (zfZ.1 hc).1
  have k1 : ¬ (n1 : Int) = (n2 : Int) := by omega
  go_enter func17, ntmps17
  go_wp2_with fail
  go_ret
  exact ⟨zad HN.out.symm, Old.refl _⟩
theorem zfL (P Q G H : Int) (a : OA) (n cap : Nat) (b : OA) (m c : Nat) (C : NN) (w : World) (h4 : Four P Q G H) (mm : m <= 9223372036854775807) (h : BoxsIn w b m C) :
  Calls prog 54 #[gv P Q G H a n cap, .slice b m c] w (Ret w (.bool (batB P Q m C))) := by
 have HX : Hid (BoxsIn w b m C) := h
 have HI : Hid (∀ x r wx, U64 x -> inI P Q x = r -> Calls prog 55 #[gv P Q G H a n cap, .int .u64 x] wx (Ret wx (.bool r))) := fun x r wx hx hr => by
  have := zdu P Q G H x a n cap wx h4.q0 h4.q1 hx.2
  rw [hr] at this
  exact this
 have HZ := lain1 w (gc P Q G H a n cap) 25
 have HG0 := fun w' ho => (HZ.then (W' := w') ho).row 0 (by simp)
 have HW0 : Hid (Old w (w.alloc (.cells (gc P Q G H a n cap) 25))) := HZ.old
 clear HZ h h4
 by_cases h1 : 1 <= m
 rotate_left
 ·have HV : Hid (batB P Q m C = false) := no_of fun hc => h1 (zaK.1 hc).1.1
  have h0 : m = 0 := by omega
  subst h0
  go_enter func54, ntmps54
  go_upto_region 1 with fail
  generalize w.alloc (.cells (gc P Q G H a n cap) 25) = W at *
  go_wp2_with fail
  go_ret
  exact ⟨zad HV.out.symm, HW0.out⟩
 by_cases h8 : m <= 8
 rotate_left
 ·have HV : Hid (batB P Q m C = false) := no_of fun hc => h8 (zaK.1 hc).1.2
  have k1 : ¬ (m : Int) < 1 := by omega
  have k2 : (8 : Int) < (m : Int) := by omega
  clear h1 h8
  go_enter func54, ntmps54
  go_upto_region 1 with fail
  generalize w.alloc (.cells (gc P Q G H a n cap) 25) = W at *
  go_wp2_with fail
  go_ret
  exact ⟨zad HV.out.symm, HW0.out⟩
 have k1 : ¬ (m : Int) < 1 := by omega
 have k2 : ¬ (8 : Int) < (m : Int) := by omega
 have H18 : Hid (1 <= m /\ m <= 8) := ⟨h1, h8⟩
 go_enter func54, ntmps54
 go_upto_region 1 with fail
 generalize w.alloc (.cells (gc P Q G H a n cap) 25) = W at *
 obtain ⟨gb, hgb⟩ : ∃ gb, gb = w.heap.size := ⟨_, rfl⟩
 have HG : Hid (∀ wx, Old W wx -> wx.heap[gb]? = some (.cells (gc P Q G H a n cap) 25 (0, 0))) := by rw [hgb]; exact HG0
 rw [<- hgb]
 clear hgb HG0
 go_wp2_with fail
 go_loopw [5] (fun iv wx => ∃ i : Nat, iv = .int .i64 (i : Int) /\ i <= m /\ Hid (Old W wx) /\ Hid (∀ j, j < i -> ∀ k, k < 6 -> inI P Q (C j k) = true)) (fun iv _ => m - (intOf iv).toNat)
 case atStart => exact ⟨0, rfl, Nat.zero_le _, Old.refl _, fun j hj => by omega⟩
 case round =>
  obtain ⟨i, rfl, hi, HO, HJ⟩ := hrel
  by_cases hlt : i < m
  ·go_upto_region 7 with fail
   go_loopw [6] (fun kv wx => ∃ k : Nat, kv = .int .i64 (k : Int) /\ k <= 3 /\ Hid (Old W wx) /\ Hid (∀ q, q < 2 * k -> inI P Q (C i q) = true)) (fun kv _ => 3 - (intOf kv).toNat)
   case atStart => exact ⟨0, rfl, Nat.zero_le _, HO, fun q hq => by omega⟩
   case round =>
    obtain ⟨k, rfl, hk, HO2, HK⟩ := hrel
    by_cases hkl : k < 3
    ·have k3 : (k : Int) < 3 := by omega
     rcases HX.out with h0 | ⟨bx, ox, hqx, _, hrx⟩
     ·omega
     have HU : Hid (∀ wx, Old wr wx -> wx.cell? ⟨bx, ox + i * 6 + k * 2, none⟩ = some (.int .u64 (C i (2 * k)))) := fun wx ho => by
      have := (((HW0.out.trans HO2.out).trans ho)).cellOf (hrx i hlt (2 * k) (by omega)).1
      rwa [show ox + i * 6 + 2 * k = ox + i * 6 + k * 2 by omega] at this
     have HV : Hid (∀ wx, Old wr wx -> wx.cell? ⟨bx, ox + i * 6 + k * 2 + 1, none⟩ = some (.int .u64 (C i (2 * k + 1)))) := fun wx ho => by
      have := (((HW0.out.trans HO2.out).trans ho)).cellOf (hrx i hlt (2 * k + 1) (by omega)).1
      rwa [show ox + i * 6 + (2 * k + 1) = ox + i * 6 + k * 2 + 1 by omega] at this
     have HUu : Hid (U64 (C i (2 * k)) /\ U64 (C i (2 * k + 1))) := ⟨(hrx i hlt (2 * k) (by omega)).2, (hrx i hlt (2 * k + 1) (by omega)).2⟩
     have HGr : Hid (∀ wx, Old wr wx -> wx.heap[gb]? = some (.cells (gc P Q G H a n cap) 25 (0, 0))) := fun wx ho => HG.out wx (HO2.out.trans ho)
     clear hrx
     subst hqx
     cases hu : inI P Q (C i (2 * k)) with
     | false =>
      have HIu : Hid (inI P Q (C i (2 * k)) = false) := hu
      have HN : Hid (batB P Q m C = false) := no_of fun hc => by have := (zaK.1 hc).2 i hlt (2 * k) (by omega); rw [hu] at this; cases this
      clear hu
      generalize C i (2 * k) = xu at *
      generalize C i (2 * k + 1) = xv at *
      go_upto_region 9 with fail
      refine zaa 22 [.k (gv P Q G H a n cap), .k (.slice (some ⟨bx, ox, none⟩) m c), .k (.int .i64 (i : Int)), .k (.int .i64 (k : Int)), .k (.pointer (some ⟨bx, ox + i * 6, none⟩)), .k (.pointer (some ⟨bx, ox + i * 6 + k * 2, none⟩)), .k (.pointer (some ⟨bx, ox + i * 6 + k * 2, none⟩)), .k (.int .u64 xu), .k (.bool false), .k (.bool true), .k (.bool true), .k undef, .k undef, .k undef, .k undef, .k undef, .k undef, .k undef, .k undef, .k undef, .k undef, .k (.bool true)] (Old wr) (by kernel_rfl) (by kernel_rfl) rfl ((Old.refl _).drew) ?st ?_
      case st =>
       refine .c (sts U25 HGr.out) <| .p <| .p <| .p <| .c (stj (n := m) (c := c) 6 hlt U26) <| .c (saj 2 hkl U74) <| .p <| .c (stl U22 HU.out) <| .c (stK old_R func55 (fun wy _ => HI.out xu false wy HUu.out.1 HIu.out)) <| .p <| .p <| .c stn <| .c stn <| .c stn <| .c stn <| .c stn <| .c stn <| .c stn <| .c stn <| .c stn <| .c stn <| .c stp .n
      intro t wz hR hk2
      simp only [fill, Ent.val, Ls0, Ls1, Ld1, Ld0, Ldn]
      have HO3 : Hid (Old W wz) := HO2.out.trans hR
      clear hR hk2
      go_wp2_with fail
      go_ret
      exact ⟨zad HN.out.symm, HW0.out.trans HO3.out⟩
     | true =>
      have HIu : Hid (inI P Q (C i (2 * k)) = true) := hu
      clear hu
      cases hv : inI P Q (C i (2 * k + 1)) with
      | false =>
       have HIv : Hid (inI P Q (C i (2 * k + 1)) = false) := hv
       have HN : Hid (batB P Q m C = false) := no_of fun hc => by have := (zaK.1 hc).2 i hlt (2 * k + 1) (by omega); rw [hv] at this; cases this
       clear hv
       generalize C i (2 * k) = xu at *
       generalize C i (2 * k + 1) = xv at *
       go_upto_region 9 with fail
       refine zaa 22 [.k (gv P Q G H a n cap), .k (.slice (some ⟨bx, ox, none⟩) m c), .k (.int .i64 (i : Int)), .k (.int .i64 (k : Int)), .k (.pointer (some ⟨bx, ox + i * 6, none⟩)), .k (.pointer (some ⟨bx, ox + i * 6 + k * 2, none⟩)), .k (.pointer (some ⟨bx, ox + i * 6 + k * 2, none⟩)), .k (.int .u64 xu), .k (.bool true), .k (.bool false), .k (.bool false), .k (gv P Q G H a n cap), .k (.slice (some ⟨bx, ox, none⟩) m c), .k (.int .i64 (i : Int)), .k (.int .i64 (k : Int)), .k (.pointer (some ⟨bx, ox + i * 6, none⟩)), .k (.pointer (some ⟨bx, ox + i * 6 + k * 2, none⟩)), .k (.pointer (some ⟨bx, ox + i * 6 + k * 2 + 1, none⟩)), .k (.int .u64 xv), .k (.bool false), .k (.bool true), .k (.bool true)] (Old wr) (by kernel_rfl) (by kernel_rfl) rfl ((Old.refl _).drew) ?st ?_
       case st =>
        refine .c (sts U25 HGr.out) <| .p <| .p <| .p <| .c (stj (n := m) (c := c) 6 hlt U26) <| .c (saj 2 hkl U74) <| .p <| .c (stl U22 HU.out) <| .c (stK old_R func55 (fun wy _ => HI.out xu true wy HUu.out.1 HIu.out)) <| .p <| .p <| .c (sts U25 HGr.out) <| .p <| .p <| .p <| .c (stj (n := m) (c := c) 6 hlt U26) <| .c (saj 2 hkl U74) <| .p <| .c (stl U22 HV.out) <| .c (stK old_R func55 (fun wy _ => HI.out xv false wy HUu.out.2 HIv.out)) <| .p <| .c stp .n
       intro t wz hR hk2
       simp only [fill, Ent.val, Ls0, Ls1, Ld1, Ld0, Ldn]
       have HO3 : Hid (Old W wz) := HO2.out.trans hR
       clear hR hk2
       go_wp2_with fail
       go_ret
       exact ⟨zad HN.out.symm, HW0.out.trans HO3.out⟩
      | true =>
       have HIv : Hid (inI P Q (C i (2 * k + 1)) = true) := hv
       have HK2 : Hid (∀ q, q < 2 * (k + 1) -> inI P Q (C i q) = true) := fun q hq => by
        by_cases q1 : q < 2 * k
        ·exact HK.out q q1
        ·by_cases q2 : q = 2 * k
         ·rw [q2]; exact HIu.out
         ·rw [show q = 2 * k + 1 by omega]; exact hv
       clear hv HK
       generalize C i (2 * k) = xu at *
       generalize C i (2 * k + 1) = xv at *
       go_upto_region 9 with fail
       refine zaa 22 [.k (gv P Q G H a n cap), .k (.slice (some ⟨bx, ox, none⟩) m c), .k (.int .i64 (i : Int)), .k (.int .i64 (k : Int)), .k (.pointer (some ⟨bx, ox + i * 6, none⟩)), .k (.pointer (some ⟨bx, ox + i * 6 + k * 2, none⟩)), .k (.pointer (some ⟨bx, ox + i * 6 + k * 2, none⟩)), .k (.int .u64 xu), .k (.bool true), .k (.bool false), .k (.bool false), .k (gv P Q G H a n cap), .k (.slice (some ⟨bx, ox, none⟩) m c), .k (.int .i64 (i : Int)), .k (.int .i64 (k : Int)), .k (.pointer (some ⟨bx, ox + i * 6, none⟩)), .k (.pointer (some ⟨bx, ox + i * 6 + k * 2, none⟩)), .k (.pointer (some ⟨bx, ox + i * 6 + k * 2 + 1, none⟩)), .k (.int .u64 xv), .k (.bool true), .k (.bool false), .k (.bool false)] (Old wr) (by kernel_rfl) (by kernel_rfl) rfl ((Old.refl _).drew) ?st ?_
       case st =>
        refine .c (sts U25 HGr.out) <| .p <| .p <| .p <| .c (stj (n := m) (c := c) 6 hlt U26) <| .c (saj 2 hkl U74) <| .p <| .c (stl U22 HU.out) <| .c (stK old_R func55 (fun wy _ => HI.out xu true wy HUu.out.1 HIu.out)) <| .p <| .p <| .c (sts U25 HGr.out) <| .p <| .p <| .p <| .c (stj (n := m) (c := c) 6 hlt U26) <| .c (saj 2 hkl U74) <| .p <| .c (stl U22 HV.out) <| .c (stK old_R func55 (fun wy _ => HI.out xv true wy HUu.out.2 HIv.out)) <| .p <| .c stp .n
       intro t wz hR hk2
       simp only [fill, Ent.val, Ls0, Ls1, Ld1, Ld0, Ldn]
       have HO3 : Hid (Old W wz) := HO2.out.trans hR
       clear hR hk2
       go_wp2_with fail
       go_roundw
       case rel => exact ⟨k + 1, zab k, by omega, HO3, HK2⟩
       case measure => simp [intOf]; omega
    ·have hk3 : k = 3 := by omega
     subst hk3
     go_wp2_with fail
     go_roundw
     case rel => exact ⟨i + 1, zab i, by omega, HO2, zav HJ.out (fun q hq => HK.out q (by omega))⟩
     case measure => simp [intOf]; omega
  ·have he : m = i := by omega
   have HV : Hid (batB P Q m C = true) := zaK.2 ⟨H18.out, by rw [he]; exact HJ.out⟩
   subst he
   go_wp2_with fail
   go_ret
   exact ⟨zad HV.out.symm, HW0.out.trans HO.out⟩
def ordR (n : Nat) (O : NI) : Bool := decide (n <= 8) && ordB n O
theorem zfB {n : Nat} {O : NI} : ordR n O = true ↔ (1 <= n /\ n <= 8) /\ ∀ k, k < n -> ordK8 O (k : Nat) n = 1 := by
 unfold ordR
 rw [Bool.and_eq_true_iff, decide_eq_true_eq, zaA]
 exact ⟨fun ⟨h8, h⟩ => ⟨⟨h.1, h8⟩, h.once⟩, fun ⟨h1, h⟩ => ⟨h1.2, ordP_of_once h1.1 h⟩⟩
theorem ordK8_le2 (O : NI) (k : Int) : ∀ n, ordK8 O k n <= n
 | 0 => Nat.le_refl 0
 | n + 1 => by
  show ordK8 O k n + (if O n = k then 1 else 0) <= n + 1
  have := ordK8_le2 O k n
  split <;> omega
theorem zbz (b : OA) (n c : Nat) (O : NI) (w : World) (mm : n <= 9223372036854775807) (h : IntsIn w b n O) :
  Calls prog 56 #[.slice b n c] w (Ret w (.bool (ordR n O))) := by
 have HX : Hid (IntsIn w b n O) := h
 clear h
 by_cases h1 : 1 <= n
 rotate_left
 ·have HV : Hid (ordR n O = false) := no_of fun hc => h1 (zfB.1 hc).1.1
  have h0 : n = 0 := by omega
  subst h0
  go_enter func56, ntmps56
  go_wp2_with fail
  go_ret
  exact ⟨zad HV.out.symm, Old.refl _⟩
 by_cases h8 : n <= 8
 rotate_left
 ·have HV : Hid (ordR n O = false) := no_of fun hc => h8 (zfB.1 hc).1.2
  have k1 : ¬ (n : Int) < 1 := by omega
  have k2 : (8 : Int) < (n : Int) := by omega
  clear h1 h8
  go_enter func56, ntmps56
  go_wp2_with fail
  go_ret
  exact ⟨zad HV.out.symm, Old.refl _⟩
 have k1 : ¬ (n : Int) < 1 := by omega
 have k2 : ¬ (8 : Int) < (n : Int) := by omega
 have H18 : Hid (1 <= n /\ n <= 8) := ⟨h1, h8⟩
 go_enter func56, ntmps56
 go_wp2_with fail
 go_loopw [3] (fun kv wx => ∃ k : Nat, kv = .int .i64 (k : Int) /\ k <= n /\ Hid (Old w wx) /\ Hid (∀ j, j < k -> ordK8 O (j : Nat) n = 1)) (fun kv _ => n - (intOf kv).toNat)
 case atStart => exact ⟨0, rfl, Nat.zero_le _, Old.refl _, fun j hj => by omega⟩
 case round =>
  obtain ⟨k, rfl, hk, HO, HJ⟩ := hrel
  by_cases hlt : k < n
  ·go_upto_region 8 with fail
   go_loopw [4, 5] (fun nv iv wx => ∃ i : Nat, iv = .int .i64 (i : Int) /\ i <= n /\ nv = .int .i64 ((ordK8 O (k : Int) i : Nat) : Int) /\ Hid (Old w wx)) (fun _ iv _ => n - (intOf iv).toNat)
   case atStart => exact ⟨0, rfl, Nat.zero_le _, rfl, HO⟩
   case round =>
    obtain ⟨i, rfl, hi, rfl, HO2⟩ := hrel
    by_cases hil : i < n
    ·rcases HX.out with h0 | ⟨bx, ox, hqx, _, hrx⟩
     ·omega
     have cx := (HO2.out).cellOf (hrx i hil).1
     clear hrx
     subst hqx
     have hle := ordK8_le2 O (k : Int) i
     by_cases he : O i = (k : Int)
     ·have HK : Hid (ordK8 O (k : Int) (i + 1) = ordK8 O (k : Int) i + 1) := by show ordK8 O (k : Int) i + (if O i = (k : Int) then 1 else 0) = _; rw [if_pos he]
      rw [he] at cx
      clear he
      generalize ordK8 O (k : Int) i = cn at *
      go_wp2_with fail
      go_roundw
      case rel => exact ⟨i + 1, zab i, by omega, by rw [HK.out]; exact zab cn, HO2⟩
      case measure => simp [intOf]; omega
     ·have HK : Hid (ordK8 O (k : Int) (i + 1) = ordK8 O (k : Int) i) := by show ordK8 O (k : Int) i + (if O i = (k : Int) then 1 else 0) = _; rw [if_neg he]; rfl
      generalize ordK8 O (k : Int) i = cn at *
      go_wp2_with fail
      go_roundw
      case rel => exact ⟨i + 1, zab i, by omega, by rw [HK.out], HO2⟩
      case measure => simp [intOf]; omega
    ·have hie : n = i := by omega
     subst hie
     by_cases he : ordK8 O (k : Int) n = 1
     ·have HE : Hid (ordK8 O (k : Nat) n = 1) := he
      rw [he]
      clear he
      go_wp2_with fail
      go_roundw
      case rel => exact ⟨k + 1, zab k, by omega, HO2, zav HJ.out HE.out⟩
      case measure => simp [intOf]; omega
     ·have HN : Hid (ordR n O = false) := no_of fun hc => he ((zfB.1 hc).2 k hlt)
      have k3 : ¬ ((ordK8 O (k : Int) n : Nat) : Int) = 1 := by omega
      clear he
      generalize ordK8 O (k : Int) n = cn at *
      go_wp2_with fail
      go_ret
      exact ⟨zad HN.out.symm, HO2.out⟩
  ·have he : n = k := by omega
   have HV : Hid (ordR n O = true) := zfB.2 ⟨H18.out, by rw [he]; rw [he] at HJ; exact HJ.out⟩
   subst he
   go_wp2_with fail
   go_ret
   exact ⟨zad HV.out.symm, HO.out⟩
theorem zaO (x y Q : Int) (hx : U64 x) (hy : U64 y) (w : World) : Calls prog 70 #[.int .u64 x, .int .u64 y, .int .u64 Q] w (Ret w (.int .u64 (mulI x y Q))) := (zbo x y Q w hx.1 hx.2 hy.1 hy.2).mono fun r w' ⟨h, k⟩ => ⟨h, (Old.refl _).draws k⟩
theorem zdf (x y Q : Int) (hx : U64 x) (hy : U64 y) (w : World) : Calls prog 77 #[.int .u64 x, .int .u64 y, .int .u64 Q] w (Ret w (.int .u64 (addI x y Q))) := (zdR x y Q w hx.1 hx.2 hy.1 hy.2).mono fun r w' ⟨h, k⟩ => ⟨h, (Old.refl _).draws k⟩
theorem zf0 (x y Q : Int) (hx : U64 x) (hy : U64 y) (w : World) : Calls prog 78 #[.int .u64 x, .int .u64 y, .int .u64 Q] w (Ret w (.int .u64 (subI x y Q))) := (rsub_any x y Q w hx.1 hx.2 hy.1 hy.2).mono fun r w' ⟨h, k⟩ => ⟨h, (Old.refl _).draws k⟩
theorem srpow_any (x y Q : Int) (hx : U64 x) (hy : U64 y) (w : World) : Calls prog 105 #[.int .u64 x, .int .u64 y, .int .u64 Q] w (Ret w (.int .u64 (powI x y Q))) := (zcz x y Q w hx.1 hx.2 hy.1 hy.2).mono fun r w' ⟨h, k⟩ => ⟨h, (Old.refl _).draws k⟩
theorem zfn (P Q G H : Int) (a : OA) (n cap : Nat) (x e : Int) (h4 : Four P Q G H) (hx : U64 x) (he : U64 e) (w : World) : Calls prog 68 #[gv P Q G H a n cap, .int .u64 x, .int .u64 e] w (Ret w (.int .u64 (expI P Q x e))) := rexp_any P Q G H x e a n cap w h4.q1 hx.1 hx.2 he.1 he.2
theorem wrapi (x : Int) (h : 0 <= x /\ x <= 1000) : IntKind.i64.wrap x = x := by rw [IntKind.wrap_i64]; omega
theorem wrapu (x : Int) (h : 0 <= x /\ x <= 1000) : IntKind.u64.wrap x = x := by rw [IntKind.wrap_u64]; omega
theorem zfV (P Q G H : Int) (a : OA) (n cap : Nat) (m r : Int) (w : World) (h4 : Four P Q G H) (hm : U64 m) (hrr : U64 r) :
  Calls prog 60 #[gv P Q G H a n cap, .int .u64 m, .int .u64 r] w (Ret w (.int .u64 (comI P Q G H m r))) := by
 have HZ := lain1 w (gc P Q G H a n cap) 25
 have HG0 := fun w' ho => (HZ.then (W' := w') ho).row 0 (by simp)
 have HW0 := hid HZ.old
 clear HZ
 go_enter func60, ntmps60
 go_upto_region 1 with fail
 generalize w.alloc (.cells (gc P Q G H a n cap) 25) = W at *
 have HG := hid HG0
 clear HG0
 generalize w.heap.size = gb at *
 refine zaa 14 [.k (gv P Q G H a n cap), .k (.pointer (some ⟨gb, 2, none⟩)), .k (.int .u64 G), .k (.int .u64 m), .k (.int .u64 (expI P Q G m)), .k (gv P Q G H a n cap), .k (.pointer (some ⟨gb, 3, none⟩)), .k (.int .u64 H), .k (.int .u64 r), .k (.int .u64 (expI P Q H r)), .k (.pointer (some ⟨gb, 0, none⟩)), .k (.int .u64 P), .k (.int .u64 (comI P Q G H m r)), .k (.int .u64 (comI P Q G H m r))] (Old W) (by kernel_rfl) (by kernel_rfl) rfl ((Old.refl _).drew) ?st ?_
 case st =>
  refine .c (sts U25 HG.out) <| .p <| .c (stf 2 U22 HG.out) <| .p <| .c (stK old_R func68 (fun wx _ => zfn P Q G H a n cap G m h4 ⟨h4.g0, h4.g1⟩ hm wx)) <| .c (sts U25 HG.out) <| .p <| .c (stf 3 U22 HG.out) <| .p <| .c (stK old_R func68 (fun wx _ => zfn P Q G H a n cap H r h4 ⟨h4.h0, h4.h1⟩ hrr wx)) <| .p <| .c (stf 0 U22 HG.out) <| .c (stK old_R func70 (fun wx _ => zaO _ _ P (zaz _ _ _ _) (zaz _ _ _ _) wx)) <| .c stp .n
 intro t wx hR hk
 simp only [fill, Ent.val, Ls0, Ls1, Ld1, Ld0, Ldn]
 go_wp2_with fail
 go_ret
 exact ⟨rfl, HW0.out.trans hR⟩
theorem zfv (P Q G H : Int) (a : OA) (n cap : Nat) (x j : Int) (w : World) (hx : U64 x) (hj : 0 <= j /\ j <= 1000) :
  Calls prog 62 #[gv P Q G H a n cap, .int .u64 x, .int .i64 j] w (Ret w (.int .u64 (powI x j Q))) := by
 have HZ := lain1 w (gc P Q G H a n cap) 25
 have HG0 := fun w' ho => (HZ.then (W' := w') ho).row 0 (by simp)
 have HW0 := hid HZ.old
 clear HZ
 go_enter func62, ntmps62
 go_upto_region 1 with fail
 generalize w.alloc (.cells (gc P Q G H a n cap) 25) = W at *
 have HG := hid HG0
 clear HG0
 generalize w.heap.size = gb at *
 have g1 : W.cell? ⟨gb, 1, none⟩ = some (.int .u64 Q) := Y1 (HG.out _ (Old.refl _))
 have e1 := wrapu j hj
 go_wp2_with (go_at_call 105; refine (srpow_any x j Q hx ⟨by omega, by omega⟩ _).mono ?_; rintro e w1 ⟨rfl, o1⟩)
 go_ret
 exact ⟨rfl, HW0.out.trans o1⟩
theorem rd8_any (P Q G H : Int) (a : OA) (n cap : Nat) (bo : OA) (no co : Nat) (O : NI) (ba : OA) (na ca : Nat) (X : Int) (bb : OA) (nb cb : Nat) (Y Z : Int) (bp : OA) (np cp i : Nat) (w : World) (hi : i < no) (hX : U64 X) (hY : U64 Y) (hZ : U64 Z) (hO : IntsIn w bo no O) (hj : 0 <= O i /\ O i < 1000) :
  Calls prog 69 #[gv P Q G H a n cap, .slice bo no co, tk ba na ca X bb nb cb Y Z bp np cp, .int .i64 (i : Int)] w (Ret w (.int .u64 (facI Q X Y Z (O i + 1)))) := by
 have HO := hid hO
 clear hO
 have HZ := lain2 w (gc P Q G H a n cap) (tkc ba na ca X bb nb cb Y Z bp np cp) 25 41
 have HG0 := fun w' ho => (HZ.then (W' := w') ho).row 0 (by simp)
 have HT0 := fun w' ho => (HZ.then (W' := w') ho).row 1 (by simp)
 have HW0 := hid HZ.old
 clear HZ
 go_enter func69, ntmps69
 go_upto_region 1 with fail
 generalize ((w.alloc (.cells (gc P Q G H a n cap) 25)).alloc (.cells (tkc ba na ca X bb nb cb Y Z bp np cp) 41)) = W at *
 have HG := hid HG0
 have HT := hid HT0
 clear HG0 HT0
 generalize w.heap.size = gb at *
 rcases HO.out with h0 | ⟨bx, ox, hqx, _, hrx⟩
 ·omega
 have HC := hid fun wx (hx : Old W wx) => (HW0.out.trans hx).cellOf (hrx i hi).1
 clear hrx HO
 subst hqx
 generalize O i = x at *
 have hx1 : 0 <= x + 1 /\ x + 1 <= 1000 := by omega
 have HJ : Hid (U64 (x + 1)) := ⟨by omega, by omega⟩
 have HWi : Hid (IntKind.i64.wrap (x + 1) = x + 1) := wrapi _ hx1
 have k2 := wrapu _ hx1
 have k1 := wrapi _ hx1
 have cx := HC.out W (Old.refl _)
 go_upto_region 2 with fail
 clear cx k1 k2
 refine zaa 19 [.k (.pointer (some ⟨gb + 1, 3, none⟩)), .k (.int .u64 Y), .k (.int .u64 (x + 1)), .k (.pointer (some ⟨gb, 1, none⟩)), .k (.int .u64 Q), .k (.int .u64 (mulI Y (x + 1) Q)), .k (gv P Q G H a n cap), .k (.pointer (some ⟨gb + 1, 1, none⟩)), .k (.int .u64 X), .k (.slice (some ⟨bx, ox, none⟩) no co), .k (.int .i64 (i : Int)), .k (.pointer (some ⟨bx, ox + i, none⟩)), .k (.int .i64 x), .k (.int .i64 (x + 1)), .k (.int .u64 (powI X (x + 1) Q)), .k (.pointer (some ⟨gb, 1, none⟩)), .k (.int .u64 Q), .k (.int .u64 (addI (mulI Y (x + 1) Q) (powI X (x + 1) Q) Q)), .k (.int .u64 (addI (mulI Y (x + 1) Q) (powI X (x + 1) Q) Q))] (Old W) (by kernel_rfl) (by kernel_rfl) rfl ((Old.refl _).drew) ?st ?_
 case st =>
  refine .p <| .c (stf 3 U22 HT.out) <| .p <| .p <| .c (stf 1 U22 HG.out) <| .c (stK old_R func70 (fun wx _ => zaO Y _ Q hY HJ.out wx)) <| .c (sts U25 HG.out) <| .p <| .c (stf 1 U22 HT.out) <| .p <| .p <| .c (sti (n := no) (c := co) hi U27) <| .c (stl U3 HC.out) <| .c (stv (v' := .int .i64 (IntKind.i64.wrap (x + 1))) (by rw [HWi.out])) <| .c (stK old_R func62 (fun wx _ => zfv P Q G H a n cap X (x + 1) wx hX hx1)) <| .p <| .c (stf 1 U22 HG.out) <| .c (stK old_R func77 (fun wx _ => zdf _ _ Q (zaI _ _ _) (zbi _ _ _) wx)) <| .c stp .n
 intro t wx hR hk
 simp only [fill, Ent.val, Ls0, Ls1, Ld1, Ld0, Ldn]
 have d0 : wx.cell? ⟨gb, 1, none⟩ = some (.int .u64 Q) := Y1 (HG.out _ hR)
 have d1 : wx.cell? ⟨gb + 1, 4, none⟩ = some (.int .u64 Z) := Y4 (HT.out _ hR)
 go_wp2_with (go_at_call 78; refine (zf0 _ Z Q (zba _ _ _) hZ _).mono ?_; rintro e wz ⟨rfl, oz⟩)
 go_ret
 exact ⟨rfl, (HW0.out.trans hR).trans oz⟩
theorem rbig8_any (P Q G H : Int) (a : OA) (n cap : Nat) (ba : OA) (na ca : Nat) (X : Int) (bb : OA) (nb cb : Nat) (Y Z : Int) (bp : OA) (np cp : Nat) (A B : NI) (i : Nat) (w : World) (h4 : Four P Q G H) (ha : i < na) (hb : i < nb) (hY : U64 Y) (hZ : U64 Z) (hA : FacsIn w ba na A) (hB : FacsIn w bb nb B) :
  Calls prog 67 #[gv P Q G H a n cap, tk ba na ca X bb nb cb Y Z bp np cp, .int .i64 (i : Int)] w (Ret w (.int .u64 (bigI P Q G (A i) (B i) Y Z))) := by
 have HA := hid hA
 have HB := hid hB
 have HAu := hid (hA.u64 i ha)
 have HBu := hid (hB.u64 i hb)
 clear hA hB
 have HZ := lain2 w (gc P Q G H a n cap) (tkc ba na ca X bb nb cb Y Z bp np cp) 25 41
 have HG0 := fun w' ho => (HZ.then (W' := w') ho).row 0 (by simp)
 have HT0 := fun w' ho => (HZ.then (W' := w') ho).row 1 (by simp)
 have HW0 := hid HZ.old
 clear HZ
 go_enter func67, ntmps67
 go_upto_region 1 with fail
 generalize ((w.alloc (.cells (gc P Q G H a n cap) 25)).alloc (.cells (tkc ba na ca X bb nb cb Y Z bp np cp) 41)) = W at *
 have HG := hid HG0
 have HT := hid HT0
 clear HG0 HT0
 generalize w.heap.size = gb at *
 rcases HA.out with h0 | ⟨bx, ox, hqx, _, hrx⟩
 ·omega
 rcases HB.out with h0 | ⟨by_, oy, hqy, _, hry⟩
 ·omega
 have HC := hid fun wx (hx : Old W wx) => (HW0.out.trans hx).cellOf (hrx i ha).1
 have HD := hid fun wx (hx : Old W wx) => (HW0.out.trans hx).cellOf (hry i hb).1
 clear hrx hry HA HB
 subst hqx
 subst hqy
 generalize A i = x at *
 generalize B i = z at *
 refine zaa 18 [.k (gv P Q G H a n cap), .k (.pointer (some ⟨gb + 1, 0, none⟩)), .k (.slice (some ⟨bx, ox, none⟩) na ca), .k (.int .i64 (i : Int)), .k (.pointer (some ⟨bx, ox + i, none⟩)), .k (.int .u64 x), .k (.pointer (some ⟨gb + 1, 3, none⟩)), .k (.int .u64 Y), .k (.int .u64 (expI P Q x Y)), .k (.pointer (some ⟨gb + 1, 2, none⟩)), .k (.slice (some ⟨by_, oy, none⟩) nb cb), .k (.int .i64 (i : Int)), .k (.pointer (some ⟨by_, oy + i, none⟩)), .k (.int .u64 z), .k (.pointer (some ⟨gb, 0, none⟩)), .k (.int .u64 P), .k (.int .u64 (mulI (expI P Q x Y) z P)), .k (.int .u64 (mulI (expI P Q x Y) z P))] (Old W) (by kernel_rfl) (by kernel_rfl) rfl ((Old.refl _).drew) ?st ?_
 case st =>
  refine .c (sts U25 HG.out) <| .p <| .c (stf 0 U29 HT.out) <| .p <| .c (sti (n := na) (c := ca) ha U29) <| .c (stl U22 HC.out) <| .p <| .c (stf 3 U22 HT.out) <| .c (stK old_R func68 (fun wx _ => zfn P Q G H a n cap x Y h4 HAu.out hY wx)) <| .p <| .c (stf 2 U29 HT.out) <| .p <| .c (sti (n := nb) (c := cb) hb U29) <| .c (stl U22 HD.out) <| .p <| .c (stf 0 U22 HG.out) <| .c (stK old_R func70 (fun wx _ => zaO _ _ P (zaz _ _ _ _) HBu.out wx)) <| .c stp .n
 intro t wx hR hk
 simp only [fill, Ent.val, Ls0, Ls1, Ld1, Ld0, Ldn]
 go_upto_region 2 with fail
 have HR := hid hR
 clear hR hk
 refine zaa 10 [.k (gv P Q G H a n cap), .k (.int .u64 (mulI (expI P Q x Y) z P)), .k (gv P Q G H a n cap), .k (.pointer (some ⟨gb, 2, none⟩)), .k (.int .u64 G), .k (.pointer (some ⟨gb + 1, 4, none⟩)), .k (.int .u64 Z), .k (.int .u64 (expI P Q G Z)), .k (.int .u64 (bigI P Q G x z Y Z)), .k (.int .u64 (bigI P Q G x z Y Z))] (Old wx) (by kernel_rfl) (by kernel_rfl) rfl ((Old.refl _).drew) ?st ?_
 case st =>
  refine .c (sts U25 (fun wy hy => HG.out wy (HR.out.trans hy))) <| .p <| .c (sts U25 (fun wy hy => HG.out wy (HR.out.trans hy))) <| .p <| .c (stf 2 U22 (fun wy hy => HG.out wy (HR.out.trans hy))) <| .p <| .c (stf 4 U22 (fun wy hy => HT.out wy (HR.out.trans hy))) <| .c (stK old_R func68 (fun wy _ => zfn P Q G H a n cap G Z h4 ⟨h4.g0, h4.g1⟩ hZ wy)) <| .c (stK old_R func86 (fun wy _ => rover_any P Q G H a n cap _ _ wy (zaI _ _ _) (zaz _ _ _ _))) <| .c stp .n
 intro t wz hR2 hk2
 simp only [fill, Ent.val, Ls0, Ls1, Ld1, Ld0, Ldn]
 go_wp2_with fail
 go_ret
 exact ⟨rfl, (HW0.out.trans HR.out).trans hR2⟩
theorem rproduct8_any (P Q G H : Int) (a : OA) (n cap m : Nat) (X Y Z : Int) (w : World) (hm : m <= 100) (hX : U64 X) (hY : U64 Y) (hZ : U64 Z) :
  Calls prog 87 #[gv P Q G H a n cap, .int .i64 (m : Int), .int .u64 X, .int .u64 Y, .int .u64 Z] w (Ret w (.int .u64 (prodI Q (kF Q X Y Z) m))) := by
 have HZ := lain1 w (gc P Q G H a n cap) 25
 have HG0 := fun w' ho => (HZ.then (W' := w') ho).row 0 (by simp)
 have HW0 := hid HZ.old
 clear HZ
 go_enter func87, ntmps87
 go_upto_region 1 with fail
 generalize w.alloc (.cells (gc P Q G H a n cap) 25) = W at *
 have HG := hid HG0
 clear HG0
 generalize w.heap.size = gb at *
 go_upto_region 3 with fail
 go_loopw [11, 12] (fun v iv wx => ∃ i : Nat, iv = .int .i64 ((i + 1 : Nat) : Int) /\ i <= m /\ v = .int .u64 (prodI Q (kF Q X Y Z) i) /\ Hid (Old W wx)) (fun _ iv _ => m + 1 - (intOf iv).toNat)
 case atStart => exact ⟨0, rfl, by omega, rfl, Old.refl _⟩
 case round =>
  obtain ⟨i, rfl, hi, rfl, HO⟩ := hrel
  by_cases hlt : i < m
  ·have hlt' : i + 1 <= m := hlt
   have HGr := hid fun wx (hx : Old wr wx) => HG.out _ (HO.out.trans hx)
   have HPu : Hid (U64 (prodI Q (kF Q X Y Z) i)) := zaL _ _ _
   have HJu : Hid (U64 ((i + 1 : Nat) : Int)) := ⟨by omega, by omega⟩
   have HJs : Hid (0 <= ((i + 1 : Nat) : Int) /\ ((i + 1 : Nat) : Int) <= 1000) := ⟨by omega, by omega⟩
   go_upto_region 5 with fail
   refine zaa 14 [.k (.int .u64 Y), .k (.int .i64 ((i + 1 : Nat) : Int)), .k (.int .u64 ((i + 1 : Nat) : Int)), .k (.pointer (some ⟨gb, 1, none⟩)), .k (.int .u64 Q), .k (.int .u64 (mulI Y ((i + 1 : Nat) : Int) Q)), .k (gv P Q G H a n cap), .k (.int .u64 X), .k (.int .i64 ((i + 1 : Nat) : Int)), .k (.int .u64 (powI X ((i + 1 : Nat) : Int) Q)), .k (.pointer (some ⟨gb, 1, none⟩)), .k (.int .u64 Q), .k (.int .u64 (addI (mulI Y ((i + 1 : Nat) : Int) Q) (powI X ((i + 1 : Nat) : Int) Q) Q)), .k (.int .u64 (addI (mulI Y ((i + 1 : Nat) : Int) Q) (powI X ((i + 1 : Nat) : Int) Q) Q))] (Old wr) (by kernel_rfl) (by kernel_rfl) rfl ((Old.refl _).drew) ?st ?_
   case st =>
    refine .p <| .p <| .c (stv (int_u64 (i + 1) (by omega))) <| .p <| .c (stf 1 U22 HGr.out) <| .c (stK old_R func70 (fun wx _ => zaO Y _ Q hY HJu.out wx)) <| .c (sts U25 HGr.out) <| .p <| .p <| .c (stK old_R func62 (fun wx _ => zfv P Q G H a n cap X _ wx hX HJs.out)) <| .p <| .c (stf 1 U22 HGr.out) <| .c (stK old_R func77 (fun wx _ => zdf _ _ Q (zaI _ _ _) (zbi _ _ _) wx)) <| .c stp .n
   intro t wx hR hk
   simp only [fill, Ent.val, Ls0, Ls1, Ld1, Ld0, Ldn]
   go_upto_region 6 with fail
   have HR := hid (HO.out.trans hR)
   have HGx := hid fun wy (hx : Old wx wy) => HG.out _ (HR.out.trans hx)
   clear hR hk HGr HO
   refine zaa 9 [.k (.int .u64 (prodI Q (kF Q X Y Z) i)), .k (.int .u64 (addI (mulI Y ((i + 1 : Nat) : Int) Q) (powI X ((i + 1 : Nat) : Int) Q) Q)), .k (.int .u64 Z), .k (.pointer (some ⟨gb, 1, none⟩)), .k (.int .u64 Q), .k (.int .u64 (kF Q X Y Z i)), .k (.pointer (some ⟨gb, 1, none⟩)), .k (.int .u64 Q), .k (.int .u64 (prodI Q (kF Q X Y Z) (i + 1)))] (Old wx) (by kernel_rfl) (by kernel_rfl) rfl ((Old.refl _).drew) ?st ?_
   case st =>
    refine .p <| .p <| .p <| .p <| .c (stf 1 U22 HGx.out) <| .c (stK old_R func78 (fun wy _ => zf0 _ Z Q (zba _ _ _) hZ wy)) <| .p <| .c (stf 1 U22 HGx.out) <| .c (stK old_R func70 (fun wy _ => zaO _ _ Q HPu.out (zc2 _ _ _) wy)) .n
   intro t wz hR2 hk2
   simp only [fill, Ent.val, Ls0, Ls1, Ld1, Ld0, Ldn]
   have HR2 := hid (HR.out.trans hR2)
   clear hR2 hk2 HGx HR
   go_wp2_with fail
   go_roundw
   case rel => exact ⟨i + 1, zab _, by omega, rfl, HR2⟩
   case measure => simp [intOf]; omega
  ·have he : m = i := by omega
   subst he
   go_wp2_with fail
   go_ret
   exact ⟨rfl, HW0.out.trans HO.out⟩
theorem rrow8_any (n : Nat) (w : World) (hn : n <= 8) :
  Calls prog 85 #[.int .i64 (n : Int)] w (GivF w (7 * n + 3) (fun _ => 1)) := by
 obtain ⟨N, hN⟩ : ∃ N, N = 7 * n + 3 := ⟨_, rfl⟩
 rw [<- hN]
 have hN8 : N <= 80 := by omega
 have k1 : IntKind.i64.wrap (7 * (n : Int)) = 7 * (n : Int) := by rw [IntKind.wrap_i64]; omega
 have k2 : IntKind.i64.wrap (7 * (n : Int) + 3) = (N : Int) := by rw [IntKind.wrap_i64]; omega
 have hmk := zaP N hN8
 have HFu : Hid (Full (w.alloc (.cells (madeCells #[Value.int .u64 0] N) 22)) w.heap.size N (upTo 0 fun _ => 1)) := zaC w N _
 have HW0 : Hid (Old w (w.alloc (.cells (madeCells #[Value.int .u64 0] N) 22))) := (Old.refl _).alloc _
 clear hN hn
 go_enter func85, ntmps85
 go_upto_region 2 with fail
 clear k1 k2 hmk
 generalize w.alloc (.cells (madeCells #[Value.int .u64 0] N) 22) = W1 at *
 go_upto_region 3 with fail
 go_loopw [4] (fun iv wx => ∃ i : Nat, iv = .int .i64 (i : Int) /\ i <= N /\ Hid (Full wx w.heap.size N (upTo i fun _ => 1)) /\ Hid (Old w wx)) (fun iv _ => N - (intOf iv).toNat)
 case atStart => exact ⟨0, rfl, Nat.zero_le _, HFu, HW0⟩
 case round =>
  obtain ⟨i, rfl, hi1, HN, HO⟩ := hrel
  by_cases hlt : i < N
  ·have HG : Hid (Full (wr.setCell ⟨w.heap.size, i, none⟩ (.int .u64 1)) w.heap.size N (upTo (i + 1) fun _ => 1)) := HN.out.next
   have HG2 : Hid (Old w (wr.setCell ⟨w.heap.size, i, none⟩ (.int .u64 1))) := HO.out.setCell (p := ⟨w.heap.size, i, none⟩) (Nat.le_refl _) _
   have q0 := HN.out.cell i hlt
   have f0 := HN.out.free i
   go_wp2_with fail
   go_roundw
   case rel => exact ⟨i + 1, zab i, by omega, HG, HG2⟩
   case measure => simp [intOf]; omega
  ·have he : N = i := by omega
   subst he
   have HD := hid HN.out.done
   go_wp2_with fail
   go_ret
   exact ⟨HO.out, w.heap.size, Nat.le_refl _, rfl, HD.out⟩
theorem zbN (P Q G H : Int) (a : OA) (n cap : Nat) (b : OA) (m c : Nat) (A : NI) (w : World) (h4 : Four P Q G H) (mm : m <= 9223372036854775807) (h : FacsIn w b m A) :
  Calls prog 84 #[gv P Q G H a n cap, .slice b m c] w (Ret w (.bool (elB P Q m A))) := by
 have HX := hid h
 have HI : Hid (∀ x r wx, U64 x -> inI P Q x = r -> Calls prog 55 #[gv P Q G H a n cap, .int .u64 x] wx (Ret wx (.bool r))) := fun x r wx hx hr => by
  have := zdu P Q G H x a n cap wx h4.q0 h4.q1 hx.2
  rw [hr] at this
  exact this
 clear h h4
 have HZ := lain1 w (gc P Q G H a n cap) 25
 have HG0 := fun w' ho => (HZ.then (W' := w') ho).row 0 (by simp)
 have HW0 := hid HZ.old
 clear HZ
 go_enter func84, ntmps84
 go_upto_region 1 with fail
 generalize w.alloc (.cells (gc P Q G H a n cap) 25) = W at *
 have HG := hid HG0
 clear HG0
 generalize w.heap.size = gb at *
 go_upto_region 2 with fail
 go_loopw [5] (fun iv wx => ∃ i : Nat, iv = .int .i64 (i : Int) /\ i <= m /\ Hid (Old W wx) /\ Hid (∀ j, j < i -> inI P Q (A j) = true)) (fun iv _ => m - (intOf iv).toNat)
 case atStart => exact ⟨0, rfl, Nat.zero_le _, Old.refl _, fun j hj => by omega⟩
 case round =>
  obtain ⟨i, rfl, hi, HO, HJ⟩ := hrel
  by_cases hlt : i < m
  ·rcases HX.out with h0 | ⟨bx, ox, hqx, _, hrx⟩
   ·omega
   have HC := hid fun wx (hx : Old wr wx) => ((HW0.out.trans HO.out).trans hx).cellOf (hrx i hlt).1
   have HAu := hid ((hrx i hlt).2)
   have HGr := hid fun wx (hx : Old wr wx) => HG.out _ (HO.out.trans hx)
   clear hrx
   subst hqx
   cases hu : inI P Q (A i) with
   | false =>
    have HIu : Hid (inI P Q (A i) = false) := hu
    have HN : Hid (elB P Q m A = false) := no_of fun hc => by have := zaZ.1 hc i hlt; rw [hu] at this; cases this
    clear hu
    go_upto_region 4 with fail
    refine zaa 6 [.k (gv P Q G H a n cap), .k (.slice (some ⟨bx, ox, none⟩) m c), .k (.int .i64 (i : Int)), .k (.pointer (some ⟨bx, ox + i, none⟩)), .k (.int .u64 (A i)), .k (.bool false)] (Old wr) (by kernel_rfl) (by kernel_rfl) rfl ((Old.refl _).drew) ?st ?_
    case st =>
     refine .c (sts U25 HGr.out) <| .p <| .p <| .c (sti (n := m) (c := c) hlt U29) <| .c (stl U22 HC.out) <| .c (stK old_R func55 (fun wy _ => HI.out _ _ wy HAu.out HIu.out)) .n
    intro t wx hR hk
    simp only [fill, Ent.val, Ls0, Ls1, Ld1, Ld0, Ldn]
    go_wp2_with fail
    go_ret
    exact ⟨zad HN.out.symm, (HW0.out.trans HO.out).trans hR⟩
   | true =>
    have HIu := hid hu
    have HK : Hid (∀ j, j < i + 1 -> inI P Q (A j) = true) := fun j hj => by
     by_cases he : j = i
     ·rw [he]; exact hu
     ·exact HJ.out j (by omega)
    clear hu
    go_upto_region 4 with fail
    refine zaa 6 [.k (gv P Q G H a n cap), .k (.slice (some ⟨bx, ox, none⟩) m c), .k (.int .i64 (i : Int)), .k (.pointer (some ⟨bx, ox + i, none⟩)), .k (.int .u64 (A i)), .k (.bool true)] (Old wr) (by kernel_rfl) (by kernel_rfl) rfl ((Old.refl _).drew) ?st ?_
    case st =>
     refine .c (sts U25 HGr.out) <| .p <| .p <| .c (sti (n := m) (c := c) hlt U29) <| .c (stl U22 HC.out) <| .c (stK old_R func55 (fun wy _ => HI.out _ _ wy HAu.out HIu.out)) .n
    intro t wx hR hk
    simp only [fill, Ent.val, Ls0, Ls1, Ld1, Ld0, Ldn]
    have HR := hid (HO.out.trans hR)
    clear hR hk HC HGr HO
    go_wp2_with fail
    go_roundw
    case rel => exact ⟨i + 1, zab i, by omega, HR, HK⟩
    case measure => simp [intOf]; omega
  ·have he : m = i := by omega
   subst he
   have HY := hid (zaZ.2 HJ.out)
   go_wp2_with fail
   go_ret
   exact ⟨zad HY.out.symm, HW0.out.trans HO.out⟩
end
section
open Go Go.RowKit
def RowsN (w : World) (base : Nat) (e : TypeId) (sz : Nat) (v : Value) (n : Nat) (V : Nat -> Value) : Prop := w.ownsRow base e sz v n ((List.range (n * sz)).map V)
theorem rowsN_nil (w : World) (base : Nat) (e : TypeId) (sz : Nat) (V : Nat -> Value) : RowsN w base e sz (.slice none 0 0) 0 V := by
 unfold RowsN
 rw [Nat.zero_mul]
 exact World.ownsRow_nil _ _ _ _
theorem RowsN.old {w w' : World} {base : Nat} {e : TypeId} {sz n : Nat} {v : Value} {V : Nat -> Value} (h : RowsN w base e sz v n V) (ho : Old w w') : RowsN w' base e sz v n V := by
 refine ⟨h.1, ?_⟩
 rcases h.2 with hn | ⟨g, cap, cur, hv, hb, hg, rest⟩
 ·exact Or.inl hn
 ·exact Or.inr ⟨g, cap, cur, hv, hb, (ho.block g (Array.getElem?_eq_some_iff.1 hg).1).trans hg, rest⟩
theorem RowsN.app {w : World} {base : Nat} {e : TypeId} {sz n : Nat} {v : Value} {V : Nat -> Value} {news : List Value} (h : w.ownsRow base e sz v (n + 1) ((List.range (n * sz)).map V ++ news)) (hn : news = (List.range sz).map fun q => V (n * sz + q)) : RowsN w base e sz v (n + 1) V := by
 unfold RowsN
 rw [Nat.add_mul, Nat.one_mul, List.range_add, List.map_append, List.map_map]
 rw [hn] at h
 exact h
theorem RowsN.cells {w : World} {base : Nat} {e : TypeId} {sz n : Nat} {v : Value} {V : Nat -> Value} (h : RowsN w base e sz v n V) (hn : 0 < n) : ∃ g c cur, v = .slice (some ⟨g, 0, none⟩) n c /\ n <= c /\ c <= 9223372036854775807 /\ base <= g /\ w.heap[g]? = some (.cells cur e (0, 0)) /\ ∀ q, q < n * sz -> cur[q]? = some (V q) := by
 have h1 := h.1
 rcases h.2 with ⟨rfl, rfl⟩ | ⟨g, cap, cur, rfl, hb, hg, hc, hm, hs, ht⟩
 ·omega
 ·refine ⟨g, cap, cur, rfl, hc, by unfold maxLen at hm; omega, hb, hg, fun q hq => ?_⟩
  have h2 : (cur.toList.take (n * sz))[q]? = some (V q) := by
   rw [ht]
   simp [hq]
  rw [List.getElem?_take_of_lt hq] at h2
  simpa using h2
theorem RowsN.slice {w : World} {base : Nat} {e : TypeId} {sz n : Nat} {v : Value} {V : Nat -> Value} (h : RowsN w base e sz v n V) : ∃ b c, v = .slice b n c := by
 rcases h.2 with ⟨rfl, rfl⟩ | ⟨g, cap, cur, rfl, _⟩
 ·exact ⟨none, 0, rfl⟩
 ·exact ⟨_, cap, rfl⟩
theorem zf3 (w : World) (cs : List Value) (t : TypeId) : ∀ j u, cs[j]? = some u -> (w.alloc (.cells cs.toArray t)).cell? ((⟨w.heap.size, 0, none⟩ : Addr).add j) = some u := fun j u h => by
 have hadd : (⟨w.heap.size, 0, none⟩ : Addr).add j = ⟨w.heap.size, j, none⟩ := by unfold Addr.add; split <;> simp_all
 rw [hadd, cell_of_row _ _ j _ _ (0, 0) (heap_alloc_last _ _)]
 simpa using h
abbrev bxL (C : NN) : Nat -> Value := fun q => .int .u64 (flatF C q)
theorem RowsN.boxF {w : World} {base n : Nat} {v : Value} {C : NN} (h : RowsN w base 74 6 v n (bxL C)) (hC : ∀ j k, j < n -> k < 6 -> U64 (C j k)) : ∃ b c, v = .slice b n c /\ BoxF w b n C := by
 by_cases hn : 0 < n
 ·obtain ⟨g, c, cur, rfl, _, _, _, hg, hq⟩ := h.cells hn
  refine ⟨_, c, rfl, Or.inr ⟨g, cur, rfl, hg, fun j hj k hk => ⟨?_, hC j k hj hk⟩⟩⟩
  rw [hq (j * 6 + k) (by omega)]
  unfold bxL
  rw [show j * 6 + k = 6 * j + k by omega, zbM C j k hk]
 ·obtain ⟨b, c, rfl⟩ := h.slice
  exact ⟨b, c, rfl, Or.inl (by omega)⟩
theorem box_news (C : NN) (n : Nat) : [Value.int .u64 (C n 0), .int .u64 (C n 1), .int .u64 (C n 2), .int .u64 (C n 3), .int .u64 (C n 4), .int .u64 (C n 5)] = (List.range 6).map fun q => bxL C (n * 6 + q) := by
 have h : ∀ k, k < 6 -> flatF C (n * 6 + k) = C n k := fun k hk => by rw [show n * 6 + k = 6 * n + k by omega, zbM C n k hk]
 show _ = [bxL C (n * 6 + 0), bxL C (n * 6 + 1), bxL C (n * 6 + 2), bxL C (n * 6 + 3), bxL C (n * 6 + 4), bxL C (n * 6 + 5)]
 unfold bxL
 rw [h 0 (by omega), h 1 (by omega), h 2 (by omega), h 3 (by omega), h 4 (by omega), h 5 (by omega)]
theorem za5 {w : World} {b : Nat} {cs : List Value} {t : TypeId} (h : w.heap[b]? = some (.cells cs.toArray t (0, 0))) : ∀ j u, cs[j]? = some u -> w.cell? ((⟨b, 0, none⟩ : Addr).add j) = some u := fun j u hu => by
 have hadd : (⟨b, 0, none⟩ : Addr).add j = ⟨b, j, none⟩ := by unfold Addr.add; split <;> simp_all
 rw [hadd, cell_of_row _ _ j _ _ (0, 0) h]
 simpa using hu
theorem rfirst8_any (P Q G H : Int) (a : OA) (n cap : Nat) (bo : OA) (no co : Nat) (O : NI) (br : OA) (cr : Nat) (R : NI) (w : World) (h4 : Four P Q G H) (ho : ordR no O = true) (hO : IntsIn w bo no O) (hR : FacsIn w br no R) :
  Calls prog 21 #[gv P Q G H a n cap, .slice bo no co, .slice br no cr] w (GivL w no (fun i => comI P Q G H (O i + 1) (R i))) := by
 obtain ⟨i0, hi0, hz0, hz1, hz2⟩ := info_parts zbj
 have h8 : no <= 8 := (zfB.1 ho).1.2
 have hP : OrdP no O := zaA.1 (by have := ho; unfold ordR at this; exact (Bool.and_eq_true_iff.1 this).2)
 have HOr : Hid (∀ wx, Old w wx -> Calls prog 56 #[.slice bo no co] wx (Ret wx (.bool true))) := fun wx hx => by have h := zbz bo no co O wx (by omega) (hO.old hx); rw [ho] at h; exact h
 have HB : Hid (∀ i, i < no -> 0 <= O i /\ O i < 1000) := fun i hi => by have := hP.2.1 i hi; omega
 have HIO := hid hO
 have HIR := hid hR
 have HRu := hid hR.u64
 obtain ⟨F, hF⟩ : ∃ F : Nat -> Int, F = fun i => comI P Q G H (O i + 1) (R i) := ⟨_, rfl⟩
 have HFi : Hid (∀ i, F i = comI P Q G H (O i + 1) (R i)) := fun i => by rw [hF]
 rw [<- hF]
 clear hF ho hO hR hP
 have HZ := lain1 w (gc P Q G H a n cap) 25
 have HG0 := fun w' ho => (HZ.then (W' := w') ho).row 0 (by simp)
 have HW0 := hid HZ.old
 clear HZ
 go_enter func21, ntmps21
 go_upto_region 1 with fail
 generalize w.alloc (.cells (gc P Q G H a n cap) 25) = W at *
 have HG := hid HG0
 clear HG0
 obtain ⟨gb, hgb⟩ : ∃ gb, gb = w.heap.size := ⟨_, rfl⟩
 rw [<- hgb] at HG
 rw [<- hgb]
 clear hgb
 go_upto_region 5 with (go_at_call 56; refine (HOr.out _ HW0.out).mono ?_; rintro e w1 ⟨rfl, o1⟩)
 have HO1 := hid o1
 clear o1 HOr
 go_loopw [7, 8] (fun v iv wx => ∃ i : Nat, iv = .int .i64 (i : Int) /\ i <= no /\ Hid (Nums wx W.heap.size v i F) /\ Hid (Old W wx)) (fun _ iv _ => no - (intOf iv).toNat)
 case atStart => exact ⟨0, rfl, Nat.zero_le _, zaD _ _ _, HO1⟩
 case round =>
  obtain ⟨i, rfl, hi, HN, HO⟩ := hrel
  by_cases hlt : i < no
  ·rcases HIO.out with h0 | ⟨bx, ox, hqx, _, hrx⟩
   ·omega
   rcases HIR.out with h0 | ⟨by_, oy, hqy, _, hry⟩
   ·omega
   have HC := hid fun wx (hx : Old wr wx) => ((HW0.out.trans HO.out).trans hx).cellOf (hrx i hlt).1
   have HD := hid fun wx (hx : Old wr wx) => ((HW0.out.trans HO.out).trans hx).cellOf (hry i hlt).1
   have HGr := hid fun wx (hx : Old wr wx) => HG.out _ (HO.out.trans hx)
   clear hrx hry
   subst hqx
   subst hqy
   have HJ : Hid (0 <= O i + 1 /\ O i + 1 <= 1000) := by have := HB.out i hlt; unfold Hid; omega
   have HJu : Hid (U64 (O i + 1)) := by have := HB.out i hlt; exact ⟨by omega, by omega⟩
   have HRi := hid (HRu.out i hlt)
   have HVi : Hid (Value.int .i64 (IntKind.i64.wrap (O i + 1)) = .int .i64 (O i + 1)) := by unfold Hid; rw [wrapi _ HJ.out]
   have HVu : Hid (Value.int .u64 (IntKind.u64.wrap (O i + 1)) = .int .u64 (O i + 1)) := by unfold Hid; rw [wrapu _ HJ.out]
   have HCo : Hid (∀ wx, Calls prog 60 #[gv P Q G H a n cap, .int .u64 (O i + 1), .int .u64 (R i)] wx (Ret wx (.int .u64 (F i)))) := fun wx => by rw [HFi.out]; exact zfV P Q G H a n cap _ _ wx h4 HJu.out HRi.out
   go_upto_region 7 with fail
   refine zaa 14 [.k (u7), .k (gv P Q G H a n cap), .k (.slice (some ⟨bx, ox, none⟩) no co), .k (.int .i64 (i : Int)), .k (.pointer (some ⟨bx, ox + i, none⟩)), .k (.int .i64 (O i)), .k (.int .i64 (O i + 1)), .k (.int .u64 (O i + 1)), .k (.slice (some ⟨by_, oy, none⟩) no cr), .k (.int .i64 (i : Int)), .k (.pointer (some ⟨by_, oy + i, none⟩)), .k (.int .u64 (R i)), .k (.int .u64 (F i)), blkE 1 #[.int .u64 (F i)] 22] (Old wr) (by kernel_rfl) (by kernel_rfl) rfl ((Old.refl _).drew) ?st ?_
   case st =>
    refine .p <| .c (sts U25 HGr.out) <| .p <| .p <| .c (sti (n := no) (c := co) hlt U27) <| .c (stl U3 HC.out) <| .c (stv HVi.out) <| .c (stv HVu.out) <| .p <| .p <| .c (sti (n := no) (c := cr) hlt U29) <| .c (stl U22 HD.out) <| .c (stK old_R func60 (fun wx _ => HCo.out wx)) <| .c (stm (ob := fun t => .cells #[.int .u64 (F i)] 22) (v := fun s => .slice (some ⟨s, 0, none⟩) 1 1) old_R fun t wx hR hd => ⟨_, rfl, heap_alloc_last _ _⟩) .n
   intro t wz hR2 hk2
   simp only [fill, Ent.val, blkE, Ls0, Ls1, Ld1, Ld0, Ldn]
   obtain ⟨bs, ebs, hbs⟩ : ∃ b, t 13 = .slice (some ⟨b, 0, none⟩) 1 1 /\ wz.heap[b]? = some (.cells #[.int .u64 (F i)] 22 (0, 0)) := hk2 13 (by omega)
   rw [ebs]
   have HNz := hid (HN.out.old hR2)
   have HOz := hid (HO.out.trans hR2)
   have HSz := hid HOz.out.size
   clear hk2 hR2 HN HO HC HD HGr HCo HVi HVu
   go_wp2_with (at_builtin; refine wpList_append_lies _ rfl _ _ 29 rfl W.heap.size 22 i0 (.int .u64 0) 1 8 U29 hi0 hz0 hz1 hz2 rfl (by decide) _ _ _ rfl HNz.out ⟨bs, 0, none⟩ 1 1 [.int .u64 (F i)] rfl rfl ?c1 ?c2 (by decide) ?c3 ?c4 HSz.out _ rfl ?_)
   case c1 => exact za5 hbs
   case c2 => intro u hu; simp at hu; rcases hu with rfl; rfl
   case c3 => unfold maxLen; omega
   case c4 => omega
   intro g9 cap9 w9 hown9 hgrow9 hat9 _
   have HN9 := hid (Nums.app hown9 rfl)
   have HO9 := hid (HOz.out.grown hgrow9 fun q hq => (World.ownsRow.lt HNz.out q hq).1)
   clear hown9 hgrow9 hat9 HNz HOz hbs ebs HSz
   go_wp2
   go_roundw
   case rel => exact ⟨i + 1, zab i, by omega, HN9, HO9⟩
   case measure => simp [intOf]; omega
  ·have he : no = i := by omega
   subst he
   go_wp2_with fail
   go_ret
   exact ⟨HW0.out.trans HO.out, _, rfl, HN.out.mono HW0.out.size⟩
theorem rsecond8_any (P Q G H : Int) (a : OA) (n cap : Nat) (bo : OA) (no co : Nat) (O : NI) (X : Int) (br : OA) (cr : Nat) (R : NI) (w : World) (h4 : Four P Q G H) (hXu : U64 X) (ho : ordR no O = true) (hO : IntsIn w bo no O) (hR : FacsIn w br no R) :
  Calls prog 23 #[gv P Q G H a n cap, .slice bo no co, .int .u64 X, .slice br no cr] w (GivL w no (fun i => comI P Q G H (powI X (O i + 1) Q) (R i))) := by
 obtain ⟨i0, hi0, hz0, hz1, hz2⟩ := info_parts zbj
 have h8 : no <= 8 := (zfB.1 ho).1.2
 have hP : OrdP no O := zaA.1 (by have := ho; unfold ordR at this; exact (Bool.and_eq_true_iff.1 this).2)
 have HOr : Hid (∀ wx, Old w wx -> Calls prog 56 #[.slice bo no co] wx (Ret wx (.bool true))) := fun wx hx => by have h := zbz bo no co O wx (by omega) (hO.old hx); rw [ho] at h; exact h
 have HB : Hid (∀ i, i < no -> 0 <= O i /\ O i < 1000) := fun i hi => by have := hP.2.1 i hi; omega
 have HIO := hid hO
 have HIR := hid hR
 have HRu := hid hR.u64
 obtain ⟨F, hF⟩ : ∃ F : Nat -> Int, F = fun i => comI P Q G H (powI X (O i + 1) Q) (R i) := ⟨_, rfl⟩
 have HFi : Hid (∀ i, F i = comI P Q G H (powI X (O i + 1) Q) (R i)) := fun i => by rw [hF]
 rw [<- hF]
 clear hF ho hO hR hP
 have HZ := lain1 w (gc P Q G H a n cap) 25
 have HG0 := fun w' ho => (HZ.then (W' := w') ho).row 0 (by simp)
 have HW0 := hid HZ.old
 clear HZ
 go_enter func23, ntmps23
 go_upto_region 1 with fail
 generalize w.alloc (.cells (gc P Q G H a n cap) 25) = W at *
 have HG := hid HG0
 clear HG0
 obtain ⟨gb, hgb⟩ : ∃ gb, gb = w.heap.size := ⟨_, rfl⟩
 rw [<- hgb] at HG
 rw [<- hgb]
 clear hgb
 go_upto_region 5 with (go_at_call 56; refine (HOr.out _ HW0.out).mono ?_; rintro e w1 ⟨rfl, o1⟩)
 have HO1 := hid o1
 clear o1 HOr
 go_loopw [9, 10] (fun v iv wx => ∃ i : Nat, iv = .int .i64 (i : Int) /\ i <= no /\ Hid (Nums wx W.heap.size v i F) /\ Hid (Old W wx)) (fun _ iv _ => no - (intOf iv).toNat)
 case atStart => exact ⟨0, rfl, Nat.zero_le _, zaD _ _ _, HO1⟩
 case round =>
  obtain ⟨i, rfl, hi, HN, HO⟩ := hrel
  by_cases hlt : i < no
  ·rcases HIO.out with h0 | ⟨bx, ox, hqx, _, hrx⟩
   ·omega
   rcases HIR.out with h0 | ⟨by_, oy, hqy, _, hry⟩
   ·omega
   have HC := hid fun wx (hx : Old wr wx) => ((HW0.out.trans HO.out).trans hx).cellOf (hrx i hlt).1
   have HD := hid fun wx (hx : Old wr wx) => ((HW0.out.trans HO.out).trans hx).cellOf (hry i hlt).1
   have HGr := hid fun wx (hx : Old wr wx) => HG.out _ (HO.out.trans hx)
   clear hrx hry
   subst hqx
   subst hqy
   have HJ : Hid (0 <= O i + 1 /\ O i + 1 <= 1000) := by have := HB.out i hlt; unfold Hid; omega
   have HJu : Hid (U64 (O i + 1)) := by have := HB.out i hlt; exact ⟨by omega, by omega⟩
   have HRi := hid (HRu.out i hlt)
   have HVi : Hid (Value.int .i64 (IntKind.i64.wrap (O i + 1)) = .int .i64 (O i + 1)) := by unfold Hid; rw [wrapi _ HJ.out]
   have HVu : Hid (Value.int .u64 (IntKind.u64.wrap (O i + 1)) = .int .u64 (O i + 1)) := by unfold Hid; rw [wrapu _ HJ.out]
   have HCo : Hid (∀ wx, Calls prog 60 #[gv P Q G H a n cap, .int .u64 (powI X (O i + 1) Q), .int .u64 (R i)] wx (Ret wx (.int .u64 (F i)))) := fun wx => by rw [HFi.out]; exact zfV P Q G H a n cap _ _ wx h4 (zbi _ _ _) HRi.out
   go_upto_region 7 with fail
   refine zaa 16 [.k (u9), .k (gv P Q G H a n cap), .k (gv P Q G H a n cap), .k (.int .u64 X), .k (.slice (some ⟨bx, ox, none⟩) no co), .k (.int .i64 (i : Int)), .k (.pointer (some ⟨bx, ox + i, none⟩)), .k (.int .i64 (O i)), .k (.int .i64 (O i + 1)), .k (.int .u64 (powI X (O i + 1) Q)), .k (.slice (some ⟨by_, oy, none⟩) no cr), .k (.int .i64 (i : Int)), .k (.pointer (some ⟨by_, oy + i, none⟩)), .k (.int .u64 (R i)), .k (.int .u64 (F i)), blkE 1 #[.int .u64 (F i)] 22] (Old wr) (by kernel_rfl) (by kernel_rfl) rfl ((Old.refl _).drew) ?st ?_
   case st =>
    refine .p <| .c (sts U25 HGr.out) <| .c (sts U25 HGr.out) <| .p <| .p <| .p <| .c (sti (n := no) (c := co) hlt U27) <| .c (stl U3 HC.out) <| .c (stv HVi.out) <| .c (stK old_R func62 (fun wx _ => zfv P Q G H a n cap X _ wx hXu HJ.out)) <| .p <| .p <| .c (sti (n := no) (c := cr) hlt U29) <| .c (stl U22 HD.out) <| .c (stK old_R func60 (fun wx _ => HCo.out wx)) <| .c (stm (ob := fun t => .cells #[.int .u64 (F i)] 22) (v := fun s => .slice (some ⟨s, 0, none⟩) 1 1) old_R fun t wx hR hd => ⟨_, rfl, heap_alloc_last _ _⟩) .n
   intro t wz hR2 hk2
   simp only [fill, Ent.val, blkE, Ls0, Ls1, Ld1, Ld0, Ldn]
   obtain ⟨bs, ebs, hbs⟩ : ∃ b, t 15 = .slice (some ⟨b, 0, none⟩) 1 1 /\ wz.heap[b]? = some (.cells #[.int .u64 (F i)] 22 (0, 0)) := hk2 15 (by omega)
   rw [ebs]
   have HNz := hid (HN.out.old hR2)
   have HOz := hid (HO.out.trans hR2)
   have HSz := hid HOz.out.size
   clear hk2 hR2 HN HO HC HD HGr HCo HVi HVu
   go_wp2_with (at_builtin; refine wpList_append_lies _ rfl _ _ 29 rfl W.heap.size 22 i0 (.int .u64 0) 1 8 U29 hi0 hz0 hz1 hz2 rfl (by decide) _ _ _ rfl HNz.out ⟨bs, 0, none⟩ 1 1 [.int .u64 (F i)] rfl rfl ?c1 ?c2 (by decide) ?c3 ?c4 HSz.out _ rfl ?_)
   case c1 => exact za5 hbs
   case c2 => intro u hu; simp at hu; rcases hu with rfl; rfl
   case c3 => unfold maxLen; omega
   case c4 => omega
   intro g9 cap9 w9 hown9 hgrow9 hat9 _
   have HN9 := hid (Nums.app hown9 rfl)
   have HO9 := hid (HOz.out.grown hgrow9 fun q hq => (World.ownsRow.lt HNz.out q hq).1)
   clear hown9 hgrow9 hat9 HNz HOz hbs ebs HSz
   go_wp2
   go_roundw
   case rel => exact ⟨i + 1, zab i, by omega, HN9, HO9⟩
   case measure => simp [intOf]; omega
  ·have he : no = i := by omega
   subst he
   go_wp2_with fail
   go_ret
   exact ⟨HW0.out.trans HO.out, _, rfl, HN.out.mono HW0.out.size⟩
end
section
open Go Go.RowKit
theorem zeB {P : Program} {w : World} (t ty : TypeId) (base : Nat) (e : TypeId) (i : TypeInfo) (z : Value) (size bytes : Nat) (ht : P.underlying t = some (.slice e)) (hi : P.info? e = some i) (hz : i.zero = some z)
  (hsize : i.size = size) (hby : i.bytes = bytes) (hzs : z.cells.size = size) (hsz : 0 < size)
  (b : Addr) (n : Nat) (xs : List Value) (hown : w.ownsRow base e size (.slice (some b) n n) n xs) (hlo : xs.length = n * size) (holds : ∀ j v, xs[j]? = some v -> w.cell? (b.add j) = some v)
  (ad : Addr) (m c : Nat) (news : List Value) (hl : news.length = m * size) (hnews : ∀ j u, news[j]? = some u -> w.cell? (ad.add j) = some u) (h1 : ∀ u ∈ news, u.oneCell' = true)
  (hm : 0 < m) (h63 : n + m <= maxLen) (hbytes : (n + m) * bytes <= 140737488355328) (hfit : Builtin.nextslicecap (n + m) n * bytes <= 281474976710656) (hbase : base <= w.heap.size) :
  ∃ g cap w', (Builtin.append_ #[t, t] ty #[.slice (some b) n n, .slice (some ad) m c]).run P w = .ok (.slice (some ⟨g, 0, none⟩) (n + m) cap) w' /\
   w'.ownsRow base e size (.slice (some ⟨g, 0, none⟩) (n + m) cap) (n + m) (xs ++ news) /\ Old w w' := by
 obtain ⟨g, cap, w', hr, h2, _, _, _⟩ := run_append_lies (P := P) (w := w) t ty base e i z size bytes ht hi hz hsize hby hzs hsz _ n xs hown ad m c news hl hnews h1 hm h63 hbytes hbase _ rfl
 have hr2 := run_append_grow (P := P) (w := w) t ty e i z ht hi hz b n n xs (by rw [hsize]; exact hlo) holds ad m c news (by rw [hsize]; exact hl) hnews (by omega) (by unfold maxLen at h63; omega) (by rw [hby]; exact hfit)
 rw [hr2] at hr
 simp only [Result.ok.injEq] at hr
 obtain ⟨e1, e2⟩ := hr
 refine ⟨g, cap, w', ?_, h2, ?_⟩
 ·rw [hr2, e1, e2]
 ·rw [<- e2]
  exact ((Old.refl w).drew).alloc _
variable {P : Program} {ops : List Oper} {L0 : List Value} {E : List Ent} {R : World -> Prop} {e : Ent}
theorem stA {dst : Option Tmp} {ty : TypeId} {pos : String} {after : Array Edge} {s x : Operand} {T el : TypeId} {i : TypeInfo} {z : Value} {size bytes : Nat} (n m : Nat) (hR : ∀ w w', R w -> Old w w' -> R w') (ht : P.underlying T = some (.slice el)) (hi : P.info? el = some i /\ i.zero = some z /\ i.size = size /\ i.bytes = bytes) (hzs : z.cells.size = size) (hsz : 0 < size)
  (hm : 0 < m) (h63 : n + m <= maxLen) (hbytes : (n + m) * bytes <= 140737488355328) (hfit : Builtin.nextslicecap (n + m) n * bytes <= 281474976710656) {vs vx : (Nat -> Value) -> Value}
  (h : ∀ (t : Nat -> Value) (wx : World), R wx -> (∀ k, needs ⟨dst, .call { callee := .builtin .append, args := #[s, x], argTypes := #[T, T] }, ty, pos, after, none⟩ k = true -> okAt E k (t k) wx) -> ∃ base b xs ad c news, vs t = .slice (some b) n n /\ wx.ownsRow base el size (.slice (some b) n n) n xs /\ xs.length = n * size /\ (∀ j v, xs[j]? = some v -> wx.cell? (b.add j) = some v) /\ vx t = .slice (some ad) m c /\ news.length = m * size /\ (∀ j u, news[j]? = some u -> wx.cell? (ad.add j) = some u) /\ (∀ u ∈ news, u.oneCell' = true) /\ base <= wx.heap.size /\
   ∀ g cap w', w'.ownsRow base el size (.slice (some ⟨g, 0, none⟩) (n + m) cap) (n + m) (xs ++ news) -> Old wx w' -> e.ok (.slice (some ⟨g, 0, none⟩) (n + m) cap) w')
  (hs : ∀ t, Act.eval ⟨(fill ops E t 0 L0).toArray, []⟩ s = vs t := by intro _; kernel_rfl) (hx : ∀ t, Act.eval ⟨(fill ops E t 0 L0).toArray, []⟩ x = vx t := by intro _; kernel_rfl) :
  StepT P ops L0 E R ⟨dst, .call { callee := .builtin .append, args := #[s, x], argTypes := #[T, T] }, ty, pos, after, none⟩ e := by
 refine ⟨fun t wx hRx hd => ?_⟩
 show PostT P E R e wx _
 obtain ⟨base, b, xs, ad, c, news, e1, k1, k2, k3, e2, k4, k5, k6, k7, hok⟩ := h t wx hRx hd
 obtain ⟨g, cap, w', hr, h2, ho⟩ := zeB (P := P) (w := wx) T ty base el i z size bytes ht hi.1 hi.2.1 hi.2.2.1 hi.2.2.2 hzs hsz b n xs k1 k2 k3 ad m c news k4 k5 k6 hm h63 hbytes hfit k7
 have hrun : (execOp (Act.eval ⟨(fill ops E t 0 L0).toArray, []⟩) ⟨dst, .call { callee := .builtin .append, args := #[s, x], argTypes := #[T, T] }, ty, pos, after, none⟩).run P wx = .ok (.value (.slice (some ⟨g, 0, none⟩) (n + m) cap)) w' := by
  unfold execOp
  simp only [resolve, invoke, builtin, Sem.run_bind, Sem.run_pure, Result.andThen_ok, List.map_toArray, List.map_cons, List.map_nil, hs t, hx t, e1, e2, hr]
 rw [hrun]
 exact ResT.old hR hRx ho (hok g cap w' h2 ho)
end
end Go.Proofs.YtlnmjbbpenhdbaaGreat
