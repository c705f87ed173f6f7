/-
  What the proof needs, part 25.
-/
import Derived.Test.YtlnmjbbpenhdbaaGreatKp24
import Derived.Deep.Strs
import Derived.OpenShut
namespace Go.Proofs.YtlnmjbbpenhdbaaGreat
open Tryz
set_option linter.unusedSimpArgs false
set_option linter.unusedVariables false
set_option maxRecDepth 100000
set_option maxHeartbeats 32000000
section
open Go Go.RowKit
theorem GivS.any {w w' : World} {ok : Bool} {n nt nz : Nat} {M : NN} {A B Pp K Z : NI} {r : Ending} (h : GivS w ok n M A B Pp nt K nz Z r w') (hA : ∀ i, U64 (A i)) (hB : ∀ i, U64 (B i)) (hP : ∀ i, U64 (Pp i)) (hK : ∀ i, U64 (K i)) (hZ : ∀ i, U64 (Z i)) :
  ∃ bm cm ba ca bb cb bp cp bk ck bz cz, r = .returned (.tuple #[.slice bm (if ok then n else 0) cm, .agg #[.slice ba (if ok then n else 0) ca, .slice bb (if ok then n else 0) cb, .slice bp (if ok then n else 0) cp, .slice bk (if ok then nt else 0) ck, .slice bz (if ok then nz else 0) cz], .bool ok]) /\ Old w w' /\ BoxF w' bm (if ok then n else 0) M /\ (((if ok then n else 0) <= ca /\ ca <= 9223372036854775807) /\ FacsIn w' ba (if ok then n else 0) A) /\ (((if ok then n else 0) <= cb /\ cb <= 9223372036854775807) /\ FacsIn w' bb (if ok then n else 0) B) /\ FacsIn w' bp (if ok then n else 0) Pp /\ FacsIn w' bk (if ok then nt else 0) K /\ FacsIn w' bz (if ok then nz else 0) Z := by
 obtain ⟨ho, bm, cm, va, vb, vp, vk, vz, rfl, hm, h1, h2, h3, h4, h5⟩ := h
 obtain ⟨ba, ca, rfl, a1, a2, a3⟩ := h1.facs2 fun i _ => hA i
 obtain ⟨bb, cb, rfl, b1, b2, b3⟩ := h2.facs2 fun i _ => hB i
 obtain ⟨bp, cp, rfl, _, _, p3⟩ := h3.facs2 fun i _ => hP i
 obtain ⟨bk, ck, rfl, _, _, k3⟩ := h4.facs2 fun i _ => hK i
 obtain ⟨bz, cz, rfl, _, _, z3⟩ := h5.facs2 fun i _ => hZ i
 exact ⟨bm, cm, ba, ca, bb, cb, bp, cp, bk, ck, bz, cz, rfl, ho, hm, ⟨⟨a1, a2⟩, a3⟩, ⟨⟨b1, b2⟩, b3⟩, p3, k3, z3⟩
theorem law8_proves (P Q G H : Int) (a : OA) (m cap : Nat) (N A : NI) (FA : Nat -> Option Addr) (RL RC : Nat -> Nat) (RF : NN) (label : List Int) (y : Int) (bi : OA) (l ci : Nat) (C : NN) (bo : OA) (no co : Nat) (O : NI) (bρ : OA) (nρ cρ : Nat) (Rh : NN) (bR : OA) (nR cR : Nat) (R : NI) (bS : OA) (nS cS : Nat) (S : NI) (bT : OA) (nT cT : Nat) (T : NI) (bD : OA) (nD cD : Nat) (D : NI) (w : World) (h4 : Four P Q G H) (_hcap : m <= cap) (hin : RowsIn w a m N A FA RL RC RF) (hlb : Bts label) (hy : U64 y) (hC : BoxsIn w bi l C) (hO : IntsIn w bo no O) (hρ : RhoIn w bρ nρ Rh) (hR : FacsIn w bR nR R) (hS : FacsIn w bS nS S) (hcT : nT <= cT /\ cT <= 9223372036854775807) (hT : FacsIn w bT nT T) (hcD : nD <= cD /\ cD <= 9223372036854775807) (hD : FacsIn w bD nD D) :
  Calls prog 6 #[gv P Q G H a m cap, jv label y bi l ci bo no co bρ nρ cρ bR nR cR bS nS cS bT nT cT bD nD cD] w (Ret w (.bool true)) := by
 have HA : Hid (∀ wx, Calls prog 12 #[] wx (Ret wx (.bool true))) := fun wx => awake8_any wx
 have HU : Hid (∀ wx, Old w wx -> Calls prog 13 #[gv P Q G H a m cap] wx fun e w' => e = .returned (.bool (fewB RL m && zbV P Q G H N A RF RL m)) /\ Old wx w') := fun wx ho => group5_any P Q G H a m cap N A FA RL RC RF wx h4 (hin.old ho)
 have HL : Hid (∀ wx, Calls prog 14 #[jv label y bi l ci bo no co bρ nρ cρ bR nR cR bS nS cS bT nT cT bD nD cD] wx (Ret wx (.bool (fewJ label.length l no nρ nR nS nT nD)))) := fun wx => few8_any label y bi l ci bo no co bρ nρ cρ bR nR cR bS nS cS bT nT cT bD nD cD wx
 have ha := hin.a0
 have HZ := lain2 w (gc P Q G H a m cap) (jvc label y bi l ci bo no co bρ nρ cρ bR nR cR bS nS cS bT nT cT bD nD cD) 25 33
 have HG0 := fun w' ho => (HZ.then (W' := w') ho).row 0 (by simp)
 have HJ0 := fun w' ho => (HZ.then (W' := w') ho).row 1 (by simp)
 have HW0 : Hid (Old w ((w.alloc (.cells (gc P Q G H a m cap) 25)).alloc (.cells (jvc label y bi l ci bo no co bρ nρ cρ bR nR cR bS nS cS bT nT cT bD nD cD) 33))) := HZ.old
 clear HZ hin
 go_enter func6, ntmps6
 go_upto_region 1 with fail
 generalize ((w.alloc (.cells (gc P Q G H a m cap) 25)).alloc (.cells (jvc label y bi l ci bo no co bρ nρ cρ bR nR cR bS nS cS bT nT cT bD nD cD) 33)) = W at *
 have HG : Hid (∀ wx, Old W wx -> wx.heap[w.heap.size]? = some (.cells (gc P Q G H a m cap) 25 (0, 0))) := HG0
 have HJ : Hid (∀ wx, Old W wx -> wx.heap[w.heap.size + 1]? = some (.cells (jvc label y bi l ci bo no co bρ nρ cρ bR nR cR bS nS cS bT nT cT bD nD cD) 33 (0, 0))) := HJ0
 clear HG0 HJ0
 obtain ⟨gb, hgb⟩ : ∃ gb, gb = w.heap.size := ⟨_, rfl⟩
 rw [<- hgb] at HG HJ
 rw [<- hgb]
 clear hgb
 have HGc : Hid (∀ wx, Old W wx -> G5 wx (gb) P Q G H (.slice a m cap)) := fun wx ho => g5 (HG.out _ ho)
 have HJc : Hid (∀ wx, Old W wx -> wx.cell? ⟨gb + 1, 0, none⟩ = some (.string (strOfNums label)) /\ wx.cell? ⟨gb + 1, 1, none⟩ = some (.int .u64 y) /\ wx.cell? ⟨gb + 1, 2, none⟩ = some (.slice bi l ci) /\ wx.cell? ⟨gb + 1, 3, none⟩ = some (.slice bo no co) /\ wx.cell? ⟨gb + 1, 4, none⟩ = some (.slice bρ nρ cρ) /\ wx.cell? ⟨gb + 1, 5, none⟩ = some (.slice bR nR cR) /\ wx.cell? ⟨gb + 1, 6, none⟩ = some (.slice bS nS cS) /\ wx.cell? ⟨gb + 1, 7, none⟩ = some (.slice bT nT cT) /\ wx.cell? ⟨gb + 1, 8, none⟩ = some (.slice bD nD cD)) := fun wx ho => ⟨cell_of_row _ _ 0 _ _ (0, 0) (HJ.out _ ho), cell_of_row _ _ 1 _ _ (0, 0) (HJ.out _ ho), cell_of_row _ _ 2 _ _ (0, 0) (HJ.out _ ho), cell_of_row _ _ 3 _ _ (0, 0) (HJ.out _ ho), cell_of_row _ _ 4 _ _ (0, 0) (HJ.out _ ho), cell_of_row _ _ 5 _ _ (0, 0) (HJ.out _ ho), cell_of_row _ _ 6 _ _ (0, 0) (HJ.out _ ho), cell_of_row _ _ 7 _ _ (0, 0) (HJ.out _ ho), cell_of_row _ _ 8 _ _ (0, 0) (HJ.out _ ho)⟩
 go_upto_region 3 with (go_at_call 12; refine (HA.out _).mono ?_; rintro e w1 ⟨rfl, h1⟩)
 have HO1 : Hid (Old W w1) := h1
 clear h1 HA
 obtain ⟨g0, g1, g2, g3, g4⟩ := HGc.out _ HO1.out
 cases hg : (fewB RL m && zbV P Q G H N A RF RL m)
 ·rw [hg] at HU
  clear hg ha h4 hC hO hρ hR hS hT hD
  go_wp2_with (go_at_call 13; refine (HU.out _ (HW0.out.trans HO1.out)).mono ?_; rintro e w3 ⟨rfl, o3⟩)
  go_ret
  exact ⟨rfl, (HW0.out.trans HO1.out).trans o3⟩
 have hg' := (Bool.and_eq_true_iff.1 hg).2
 have hr := zfl ha hg'
 have hh := right_h hg'
 rw [hg] at HU
 clear hg hg' ha
 cases hf : fewJ label.length l no nρ nR nS nT nD
 ·rw [hf] at HL
  clear hf h4 hC hO hρ hR hS hT hD hr
  go_wp2_with (first
   | (go_at_call 13; refine (HU.out _ (HW0.out.trans HO1.out)).mono ?_; rintro e w3 ⟨rfl, o3⟩; obtain ⟨j0, j1, j2, j3, j4, j5, j6, j7, j8⟩ := HJc.out _ (HO1.out.trans o3))
   | (go_at_call 14; refine (HL.out _).mono ?_; rintro e w4 ⟨rfl, o4⟩))
  go_ret
  exact ⟨rfl, ((HW0.out.trans HO1.out).trans o3).trans o4⟩
 rw [hf] at HL
 obtain ⟨⟨hll, ml, mo⟩, mρ, mR, mS, mT, mD⟩ := fewJ_iff.1 hf
 clear hf
 cases hm : (mixB P Q y l C no O nρ && drwB l nR nS nT nD) with
 | false =>
  have hu : (∀ i, U64 (aF P Q G H O R i)) /\ (∀ i, U64 ((mxB P Q G H label y l C O Rh R S) i)) /\ (∀ i, U64 ((mxP P Q G H label y l C O Rh R S T) i)) /\ (∀ i, U64 ((mxK P Q G H label y l C O Rh R S T D) i)) /\ (∀ i, U64 ((mxZ P Q G H label y l C O Rh R S T D) i)) := ⟨fun i => zaQ _ _ _ _ _ _, fun i => zaQ _ _ _ _ _ _, fun i => zcc _ _ _ _ _ _ _ _ _ _ _ i, fun i => zaM _ _ _, fun i => zd4 _ _ _ _⟩
  have hsp := fun wx (ho : Old w wx) => zdE P Q G H a m cap label y bi l ci C bo no co O bρ nρ cρ Rh bR nR cR R bS nS cS S bT nT cT T bD nD cD D wx h4 hr hh hy hlb (by omega) (by omega) (by omega) (by omega) hcT hcD.1 (hC.old ho) (hO.old ho) (hρ.old ho) (hR.old ho) (hS.old ho) (hT.old ho) (hD.old ho)
  have hrp := fun wx (ho : Old w wx) => zd1 P Q G H a m cap label y bi l ci C bo no co O bρ nρ cρ Rh bR nR cR R bS nS cS S bT nT cT T bD nD cD D wx h4 hr hh hy hlb (by omega) (by omega) (by omega) (by omega) hcT hcD.1 (hC.old ho) (hO.old ho) (hρ.old ho) (hR.old ho) (hS.old ho) (hT.old ho) (hD.old ho)
  rw [hm] at hsp hrp
  have hl80 : l <= 80 := by omega
  clear hm h4 hC hO hρ hR hS hT hD hr hy hh
  generalize (mixC P Q G y C O Rh) = M at *
  generalize (aF P Q G H O R) = A8 at *
  generalize (mxB P Q G H label y l C O Rh R S) = B8 at *
  generalize (mxP P Q G H label y l C O Rh R S T) = P8 at *
  generalize (mxK P Q G H label y l C O Rh R S T D) = K8 at *
  generalize (mxZ P Q G H label y l C O Rh R S T D) = Z8 at *
  have HSp : Hid (∀ wx, Old w wx -> Calls prog 31 #[gv P Q G H a m cap, .string (strOfNums label), .int .u64 y, .slice bi l ci, .slice bo no co, dv bρ nρ cρ bR nR cR bS nS cS bT nT cT bD nD cD] wx fun e w' => ∃ bm cm ba ca bb cb bp cp bk ck bz cz, e = .returned (.tuple #[.slice bm 0 cm, .agg #[.slice ba 0 ca, .slice bb 0 cb, .slice bp 0 cp, .slice bk 0 ck, .slice bz 0 cz], .bool false]) /\ Old wx w' /\ BoxF w' bm 0 M /\ ((0 <= ca /\ ca <= 9223372036854775807) /\ FacsIn w' ba 0 A8) /\ ((0 <= cb /\ cb <= 9223372036854775807) /\ FacsIn w' bb 0 B8) /\ FacsIn w' bp 0 P8 /\ FacsIn w' bk 0 K8 /\ FacsIn w' bz 0 Z8) := fun wx ho => (hsp wx ho).mono fun e w' h => h.any hu.1 hu.2.1 hu.2.2.1 hu.2.2.2.1 hu.2.2.2.2
  have HRp : Hid (∀ wx, Old w wx -> Calls prog 32 #[gv P Q G H a m cap, .string (strOfNums label), .int .u64 y, .slice bi l ci, .slice bo no co, dv bρ nρ cρ bR nR cR bS nS cS bT nT cT bD nD cD] wx fun e w' => ∃ bm cm ba ca bb cb bp cp bk ck bz cz, e = .returned (.tuple #[.slice bm 0 cm, .agg #[.slice ba 0 ca, .slice bb 0 cb, .slice bp 0 cp, .slice bk 0 ck, .slice bz 0 cz], .bool false]) /\ Old wx w' /\ BoxF w' bm 0 M /\ ((0 <= ca /\ ca <= 9223372036854775807) /\ FacsIn w' ba 0 A8) /\ ((0 <= cb /\ cb <= 9223372036854775807) /\ FacsIn w' bb 0 B8) /\ FacsIn w' bp 0 P8 /\ FacsIn w' bk 0 K8 /\ FacsIn w' bz 0 Z8) := fun wx ho => (hrp wx ho).mono fun e w' h => h.any hu.1 hu.2.1 hu.2.2.1 hu.2.2.2.1 hu.2.2.2.2
  have HSa : Hid (∀ wx b c b' c', BoxF wx b 0 M -> BoxF wx b' 0 M -> Calls prog 17 #[.slice b 0 c, .slice b' 0 c'] wx (Ret wx (.bool true))) := fun wx b c b' c' h1 h2 => by
   have h := zff b 0 c M b' 0 c' M wx (by omega) h1.boxs h2.boxs
   rw [zde.2 ⟨rfl, fun _ _ _ _ => rfl⟩] at h
   exact h
  clear hsp hrp hu hcT hcD
  go_upto_region 5 with (first
   | (go_at_call 13; refine (HU.out _ (HW0.out.trans HO1.out)).mono ?_; rintro e w3 ⟨rfl, o3⟩; obtain ⟨j0, j1, j2, j3, j4, j5, j6, j7, j8⟩ := HJc.out _ (HO1.out.trans o3))
   | (go_at_call 14; refine (HL.out _).mono ?_; rintro e w4 ⟨rfl, o4⟩))
  have HO4 : Hid (Old W w4) := (HO1.out.trans o3).trans o4
  clear o3 o4 HU HL HO1 g0 g1 g2 g3 g4 j0 j1 j2 j3 j4 j5 j6 j7 j8
  obtain ⟨g0, g1, g2, g3, g4⟩ := HGc.out _ HO4.out
  obtain ⟨j0, j1, j2, j3, j4, j5, j6, j7, j8⟩ := HJc.out _ HO4.out
  go_upto_region 6 with (go_at_call 31; refine (HSp.out _ (HW0.out.trans HO4.out)).mono ?_; rintro e w5 ⟨bm, cm, ba, ca, bb, cb, bp, cp, bk, ck, bz, cz, rfl, o5, hbm, hfa, hfb, hfp, hfk, hfz⟩)
  clear g0 g1 g2 g3 g4 j0 j1 j2 j3 j4 j5 j6 j7 j8 HSp
  have HO56 : Hid (Old w5 (w5.alloc (.cells #[.slice ba 0 ca, .slice bb 0 cb, .slice bp 0 cp, .slice bk 0 ck, .slice bz 0 cz] 57))) := (Old.refl _).alloc _
  have HO6 : Hid (Old W (w5.alloc (.cells #[.slice ba 0 ca, .slice bb 0 cb, .slice bp 0 cp, .slice bk 0 ck, .slice bz 0 cz] 57))) := (HO4.out.trans o5).trans HO56.out
  have HR6 : Hid ((w5.alloc (.cells #[.slice ba 0 ca, .slice bb 0 cb, .slice bp 0 cp, .slice bk 0 ck, .slice bz 0 cz] 57)).heap[w5.heap.size]? = some (.cells #[.slice ba 0 ca, .slice bb 0 cb, .slice bp 0 cp, .slice bk 0 ck, .slice bz 0 cz] 57 (0, 0))) := heap_alloc_last _ _
  have HF6 : Hid (BoxF (w5.alloc (.cells #[.slice ba 0 ca, .slice bb 0 cb, .slice bp 0 cp, .slice bk 0 ck, .slice bz 0 cz] 57)) bm 0 M /\ FacsIn (w5.alloc (.cells #[.slice ba 0 ca, .slice bb 0 cb, .slice bp 0 cp, .slice bk 0 ck, .slice bz 0 cz] 57)) ba 0 A8 /\ FacsIn (w5.alloc (.cells #[.slice ba 0 ca, .slice bb 0 cb, .slice bp 0 cp, .slice bk 0 ck, .slice bz 0 cz] 57)) bb 0 B8 /\ FacsIn (w5.alloc (.cells #[.slice ba 0 ca, .slice bb 0 cb, .slice bp 0 cp, .slice bk 0 ck, .slice bz 0 cz] 57)) bp 0 P8 /\ FacsIn (w5.alloc (.cells #[.slice ba 0 ca, .slice bb 0 cb, .slice bp 0 cp, .slice bk 0 ck, .slice bz 0 cz] 57)) bk 0 K8 /\ FacsIn (w5.alloc (.cells #[.slice ba 0 ca, .slice bb 0 cb, .slice bp 0 cp, .slice bk 0 ck, .slice bz 0 cz] 57)) bz 0 Z8) := ⟨hbm.old HO56.out, hfa.2.old HO56.out, hfb.2.old HO56.out, hfp.old HO56.out, hfk.old HO56.out, hfz.old HO56.out⟩
  have HQ6 : Hid ((0 <= ca /\ ca <= 9223372036854775807) /\ (0 <= cb /\ cb <= 9223372036854775807)) := ⟨hfa.1, hfb.1⟩
  clear o5 hbm hfa hfb hfp hfk hfz HO56
  generalize w5.alloc (.cells #[.slice ba 0 ca, .slice bb 0 cb, .slice bp 0 cp, .slice bk 0 ck, .slice bz 0 cz] 57) = w6 at *
  generalize w5.heap.size = sb1 at *
  obtain ⟨g0, g1, g2, g3, g4⟩ := HGc.out _ HO6.out
  obtain ⟨j0, j1, j2, j3, j4, j5, j6, j7, j8⟩ := HJc.out _ HO6.out
  go_upto_region 7 with (go_at_call 32; refine (HRp.out _ (HW0.out.trans HO6.out)).mono ?_; rintro e w7 ⟨bm', cm', ba', ca', bb', cb', bp', cp', bk', ck', bz', cz', rfl, o7, hbm, hfa, hfb, hfp, hfk, hfz⟩)
  clear g0 g1 g2 g3 g4 j0 j1 j2 j3 j4 j5 j6 j7 j8 HRp
  have HO78 : Hid (Old w7 (w7.alloc (.cells #[.slice ba' 0 ca', .slice bb' 0 cb', .slice bp' 0 cp', .slice bk' 0 ck', .slice bz' 0 cz'] 57))) := (Old.refl _).alloc _
  have HO68 : Hid (Old w6 (w7.alloc (.cells #[.slice ba' 0 ca', .slice bb' 0 cb', .slice bp' 0 cp', .slice bk' 0 ck', .slice bz' 0 cz'] 57))) := o7.trans HO78.out
  have HR8 : Hid ((w7.alloc (.cells #[.slice ba' 0 ca', .slice bb' 0 cb', .slice bp' 0 cp', .slice bk' 0 ck', .slice bz' 0 cz'] 57)).heap[w7.heap.size]? = some (.cells #[.slice ba' 0 ca', .slice bb' 0 cb', .slice bp' 0 cp', .slice bk' 0 ck', .slice bz' 0 cz'] 57 (0, 0))) := heap_alloc_last _ _
  have HF8 : Hid (BoxF (w7.alloc (.cells #[.slice ba' 0 ca', .slice bb' 0 cb', .slice bp' 0 cp', .slice bk' 0 ck', .slice bz' 0 cz'] 57)) bm' 0 M /\ FacsIn (w7.alloc (.cells #[.slice ba' 0 ca', .slice bb' 0 cb', .slice bp' 0 cp', .slice bk' 0 ck', .slice bz' 0 cz'] 57)) ba' 0 A8 /\ FacsIn (w7.alloc (.cells #[.slice ba' 0 ca', .slice bb' 0 cb', .slice bp' 0 cp', .slice bk' 0 ck', .slice bz' 0 cz'] 57)) bb' 0 B8 /\ FacsIn (w7.alloc (.cells #[.slice ba' 0 ca', .slice bb' 0 cb', .slice bp' 0 cp', .slice bk' 0 ck', .slice bz' 0 cz'] 57)) bp' 0 P8 /\ FacsIn (w7.alloc (.cells #[.slice ba' 0 ca', .slice bb' 0 cb', .slice bp' 0 cp', .slice bk' 0 ck', .slice bz' 0 cz'] 57)) bk' 0 K8 /\ FacsIn (w7.alloc (.cells #[.slice ba' 0 ca', .slice bb' 0 cb', .slice bp' 0 cp', .slice bk' 0 ck', .slice bz' 0 cz'] 57)) bz' 0 Z8) := ⟨hbm.old HO78.out, hfa.2.old HO78.out, hfb.2.old HO78.out, hfp.old HO78.out, hfk.old HO78.out, hfz.old HO78.out⟩
  clear o7 hbm hfa hfb hfp hfk hfz HO78
  generalize w7.alloc (.cells #[.slice ba' 0 ca', .slice bb' 0 cb', .slice bp' 0 cp', .slice bk' 0 ck', .slice bz' 0 cz'] 57) = w8 at *
  generalize w7.heap.size = sb2 at *
  have HSs : Hid (∀ wx, Old w8 wx -> Calls prog 17 #[.slice bm 0 cm, .slice bm' 0 cm'] wx (Ret wx (.bool true))) := fun wx ho => HSa.out wx bm cm bm' cm' ((HF6.out.1.old HO68.out).old ho) (HF8.out.1.old ho)
  have HAl : Hid (∀ wx, Old w8 wx -> Calls prog 33 #[.agg #[.slice ba 0 ca, .slice bb 0 cb, .slice bp 0 cp, .slice bk 0 ck, .slice bz 0 cz], .agg #[.slice ba' 0 ca', .slice bb' 0 cb', .slice bp' 0 cp', .slice bk' 0 ck', .slice bz' 0 cz']] wx (Ret wx (.bool true))) := fun wx ho => by
   obtain ⟨_, a1, b1, p1, k1, z1⟩ := HF6.out
   obtain ⟨_, a2, b2, p2, k2, z2⟩ := HF8.out
   have ho6 := HO68.out.trans ho
   exact zeB ba 0 ca ba' ca' A8 bb 0 cb bb' cb' B8 bp 0 cp bp' cp' P8 bk 0 ck bk' ck' K8 bz 0 cz bz' cz' Z8 wx (by omega) (by omega) (by omega) (by omega) (by omega) (a1.old ho6) (a2.old ho) (b1.old ho6) (b2.old ho) (p1.old ho6) (p2.old ho) (k1.old ho6) (k2.old ho) (z1.old ho6) (z2.old ho)
  have HS1 : Hid (∀ wx, Old w8 wx -> wx.cell? ⟨sb1, 0, none⟩ = some (.slice ba 0 ca) /\ wx.cell? ⟨sb1, 1, none⟩ = some (.slice bb 0 cb) /\ wx.cell? ⟨sb1, 2, none⟩ = some (.slice bp 0 cp) /\ wx.cell? ⟨sb1, 3, none⟩ = some (.slice bk 0 ck) /\ wx.cell? ⟨sb1, 4, none⟩ = some (.slice bz 0 cz)) := fun wx ho => by
   have h := (ho.block _ (zah ((HO68.out.block _ (zah HR6.out)).trans HR6.out))).trans ((HO68.out.block _ (zah HR6.out)).trans HR6.out)
   exact g5 h
  have HS2 : Hid (∀ wx, Old w8 wx -> wx.cell? ⟨sb2, 0, none⟩ = some (.slice ba' 0 ca') /\ wx.cell? ⟨sb2, 1, none⟩ = some (.slice bb' 0 cb') /\ wx.cell? ⟨sb2, 2, none⟩ = some (.slice bp' 0 cp') /\ wx.cell? ⟨sb2, 3, none⟩ = some (.slice bk' 0 ck') /\ wx.cell? ⟨sb2, 4, none⟩ = some (.slice bz' 0 cz')) := fun wx ho => by
   have h := (ho.block _ (zah HR8.out)).trans HR8.out
   exact g5 h
  clear HSa
  go_upto_region 9 with (first
   | (go_at_call 17; refine (HSs.out _ (Old.refl _)).mono ?_; rintro e w9 ⟨rfl, o9⟩; obtain ⟨s0, s1, s2, s3, s4⟩ := HS1.out _ o9; obtain ⟨t0, t1, t2, t3, t4⟩ := HS2.out _ o9)
   | (go_at_call 33; refine (HAl.out _ o9).mono ?_; rintro e wa ⟨rfl, oa⟩))
  clear s0 s1 s2 s3 s4 t0 t1 t2 t3 t4 HSs HAl HS2
  have HO8a : Hid (Old w8 wa) := o9.trans oa
  have HOa : Hid (Old W wa) := (HO6.out.trans HO68.out).trans HO8a.out
  clear o9 oa
  go_wp2_with fail
  go_ret
  exact ⟨rfl, HW0.out.trans HOa.out⟩
 | true =>
  have hu : (∀ i, U64 (aF P Q G H O R i)) /\ (∀ i, U64 ((mxB P Q G H label y l C O Rh R S) i)) /\ (∀ i, U64 ((mxP P Q G H label y l C O Rh R S T) i)) /\ (∀ i, U64 ((mxK P Q G H label y l C O Rh R S T D) i)) /\ (∀ i, U64 ((mxZ P Q G H label y l C O Rh R S T D) i)) := ⟨fun i => zaQ _ _ _ _ _ _, fun i => zaQ _ _ _ _ _ _, fun i => zcc _ _ _ _ _ _ _ _ _ _ _ i, fun i => zaM _ _ _, fun i => zd4 _ _ _ _⟩
  have hsp := fun wx (ho : Old w wx) => zdE P Q G H a m cap label y bi l ci C bo no co O bρ nρ cρ Rh bR nR cR R bS nS cS S bT nT cT T bD nD cD D wx h4 hr hh hy hlb (by omega) (by omega) (by omega) (by omega) hcT hcD.1 (hC.old ho) (hO.old ho) (hρ.old ho) (hR.old ho) (hS.old ho) (hT.old ho) (hD.old ho)
  have hrp := fun wx (ho : Old w wx) => zd1 P Q G H a m cap label y bi l ci C bo no co O bρ nρ cρ Rh bR nR cR R bS nS cS S bT nT cT T bD nD cD D wx h4 hr hh hy hlb (by omega) (by omega) (by omega) (by omega) hcT hcD.1 (hC.old ho) (hO.old ho) (hρ.old ho) (hR.old ho) (hS.old ho) (hT.old ho) (hD.old ho)
  rw [hm] at hsp hrp
  have HAcc : Hid (∀ wx bm cm ba ca bb cb bp cp bk ck bz cz, Old w wx -> BoxsIn wx bm l (mixC P Q G y C O Rh) -> (l <= ca /\ ca <= 9223372036854775807) -> (l <= cb /\ cb <= 9223372036854775807) -> FacsIn wx ba l (aF P Q G H O R) -> FacsIn wx bb l (mxB P Q G H label y l C O Rh R S) -> FacsIn wx bp l (mxP P Q G H label y l C O Rh R S T) -> FacsIn wx bk (4 * l + 6) (mxK P Q G H label y l C O Rh R S T D) -> FacsIn wx bz (7 * l + 3) (mxZ P Q G H label y l C O Rh R S T D) -> Calls prog 34 #[gv P Q G H a m cap, .string (strOfNums label), .int .u64 y, .slice bi l ci, .slice bm l cm, .agg #[.slice ba l ca, .slice bb l cb, .slice bp l cp, .slice bk (4 * l + 6) ck, .slice bz (7 * l + 3) cz]] wx (Ret wx (.bool true))) := fun wx bm cm ba ca bb cb bp cp bk ck bz cz ho hb qa qb h1 h2 h3 hk hz => by
   obtain ⟨hmx, hdr⟩ := Bool.and_eq_true_iff.1 hm
   obtain ⟨e1, e2, e3, e4⟩ := zb6.1 hdr
   obtain ⟨f1, f2, f3, f4, f5⟩ := zdP.1 hmx
   have h8 : l <= 8 := (zaK.1 f1).1.2
   subst e1 e2 e3
   have M8 := mix8_of hr hh hmx hρ hR hS hT
   have h := zeE P Q G H a m cap label y bi nT ci C bm nT cm (mixC P Q G y C O Rh) ba nT ca (aF P Q G H O R) bb nT cb (mxB P Q G H label y nT C O Rh R S) bp nT cp (mxP P Q G H label y nT C O Rh R S T) bk (4 * nT + 6) ck (mxK P Q G H label y nT C O Rh R S T D) bz (7 * nT + 3) cz (mxZ P Q G H label y nT C O Rh R S T D) wx
   have h := h h4 hr hy hlb (by omega) (by omega) qa qb (by omega) (hC.old ho) hb h1 h2 h3 hk hz
   rwa [M8.accG label (fun k hk => (hD.u64 k (by omega)).1)] at h
  have hl80 : l <= 80 := by omega
  clear hm h4 hC hO hρ hR hS hT hD hr hy hh
  generalize (mixC P Q G y C O Rh) = M at *
  generalize (aF P Q G H O R) = A8 at *
  generalize (mxB P Q G H label y l C O Rh R S) = B8 at *
  generalize (mxP P Q G H label y l C O Rh R S T) = P8 at *
  generalize (mxK P Q G H label y l C O Rh R S T D) = K8 at *
  generalize (mxZ P Q G H label y l C O Rh R S T D) = Z8 at *
  have HSp : Hid (∀ wx, Old w wx -> Calls prog 31 #[gv P Q G H a m cap, .string (strOfNums label), .int .u64 y, .slice bi l ci, .slice bo no co, dv bρ nρ cρ bR nR cR bS nS cS bT nT cT bD nD cD] wx fun e w' => ∃ bm cm ba ca bb cb bp cp bk ck bz cz, e = .returned (.tuple #[.slice bm l cm, .agg #[.slice ba l ca, .slice bb l cb, .slice bp l cp, .slice bk (4 * l + 6) ck, .slice bz (7 * l + 3) cz], .bool true]) /\ Old wx w' /\ BoxF w' bm l M /\ ((l <= ca /\ ca <= 9223372036854775807) /\ FacsIn w' ba l A8) /\ ((l <= cb /\ cb <= 9223372036854775807) /\ FacsIn w' bb l B8) /\ FacsIn w' bp l P8 /\ FacsIn w' bk (4 * l + 6) K8 /\ FacsIn w' bz (7 * l + 3) Z8) := fun wx ho => (hsp wx ho).mono fun e w' h => h.any hu.1 hu.2.1 hu.2.2.1 hu.2.2.2.1 hu.2.2.2.2
  have HRp : Hid (∀ wx, Old w wx -> Calls prog 32 #[gv P Q G H a m cap, .string (strOfNums label), .int .u64 y, .slice bi l ci, .slice bo no co, dv bρ nρ cρ bR nR cR bS nS cS bT nT cT bD nD cD] wx fun e w' => ∃ bm cm ba ca bb cb bp cp bk ck bz cz, e = .returned (.tuple #[.slice bm l cm, .agg #[.slice ba l ca, .slice bb l cb, .slice bp l cp, .slice bk (4 * l + 6) ck, .slice bz (7 * l + 3) cz], .bool true]) /\ Old wx w' /\ BoxF w' bm l M /\ ((l <= ca /\ ca <= 9223372036854775807) /\ FacsIn w' ba l A8) /\ ((l <= cb /\ cb <= 9223372036854775807) /\ FacsIn w' bb l B8) /\ FacsIn w' bp l P8 /\ FacsIn w' bk (4 * l + 6) K8 /\ FacsIn w' bz (7 * l + 3) Z8) := fun wx ho => (hrp wx ho).mono fun e w' h => h.any hu.1 hu.2.1 hu.2.2.1 hu.2.2.2.1 hu.2.2.2.2
  have HSa : Hid (∀ wx b c b' c', BoxF wx b l M -> BoxF wx b' l M -> Calls prog 17 #[.slice b l c, .slice b' l c'] wx (Ret wx (.bool true))) := fun wx b c b' c' h1 h2 => by
   have h := zff b l c M b' l c' M wx (by omega) h1.boxs h2.boxs
   rw [zde.2 ⟨rfl, fun _ _ _ _ => rfl⟩] at h
   exact h
  clear hsp hrp hu hcT hcD
  go_upto_region 5 with (first
   | (go_at_call 13; refine (HU.out _ (HW0.out.trans HO1.out)).mono ?_; rintro e w3 ⟨rfl, o3⟩; obtain ⟨j0, j1, j2, j3, j4, j5, j6, j7, j8⟩ := HJc.out _ (HO1.out.trans o3))
   | (go_at_call 14; refine (HL.out _).mono ?_; rintro e w4 ⟨rfl, o4⟩))
  have HO4 : Hid (Old W w4) := (HO1.out.trans o3).trans o4
  clear o3 o4 HU HL HO1 g0 g1 g2 g3 g4 j0 j1 j2 j3 j4 j5 j6 j7 j8
  obtain ⟨g0, g1, g2, g3, g4⟩ := HGc.out _ HO4.out
  obtain ⟨j0, j1, j2, j3, j4, j5, j6, j7, j8⟩ := HJc.out _ HO4.out
  go_upto_region 6 with (go_at_call 31; refine (HSp.out _ (HW0.out.trans HO4.out)).mono ?_; rintro e w5 ⟨bm, cm, ba, ca, bb, cb, bp, cp, bk, ck, bz, cz, rfl, o5, hbm, hfa, hfb, hfp, hfk, hfz⟩)
  clear g0 g1 g2 g3 g4 j0 j1 j2 j3 j4 j5 j6 j7 j8 HSp
  have HO56 : Hid (Old w5 (w5.alloc (.cells #[.slice ba l ca, .slice bb l cb, .slice bp l cp, .slice bk (4 * l + 6) ck, .slice bz (7 * l + 3) cz] 57))) := (Old.refl _).alloc _
  have HO6 : Hid (Old W (w5.alloc (.cells #[.slice ba l ca, .slice bb l cb, .slice bp l cp, .slice bk (4 * l + 6) ck, .slice bz (7 * l + 3) cz] 57))) := (HO4.out.trans o5).trans HO56.out
  have HR6 : Hid ((w5.alloc (.cells #[.slice ba l ca, .slice bb l cb, .slice bp l cp, .slice bk (4 * l + 6) ck, .slice bz (7 * l + 3) cz] 57)).heap[w5.heap.size]? = some (.cells #[.slice ba l ca, .slice bb l cb, .slice bp l cp, .slice bk (4 * l + 6) ck, .slice bz (7 * l + 3) cz] 57 (0, 0))) := heap_alloc_last _ _
  have HF6 : Hid (BoxF (w5.alloc (.cells #[.slice ba l ca, .slice bb l cb, .slice bp l cp, .slice bk (4 * l + 6) ck, .slice bz (7 * l + 3) cz] 57)) bm l M /\ FacsIn (w5.alloc (.cells #[.slice ba l ca, .slice bb l cb, .slice bp l cp, .slice bk (4 * l + 6) ck, .slice bz (7 * l + 3) cz] 57)) ba l A8 /\ FacsIn (w5.alloc (.cells #[.slice ba l ca, .slice bb l cb, .slice bp l cp, .slice bk (4 * l + 6) ck, .slice bz (7 * l + 3) cz] 57)) bb l B8 /\ FacsIn (w5.alloc (.cells #[.slice ba l ca, .slice bb l cb, .slice bp l cp, .slice bk (4 * l + 6) ck, .slice bz (7 * l + 3) cz] 57)) bp l P8 /\ FacsIn (w5.alloc (.cells #[.slice ba l ca, .slice bb l cb, .slice bp l cp, .slice bk (4 * l + 6) ck, .slice bz (7 * l + 3) cz] 57)) bk (4 * l + 6) K8 /\ FacsIn (w5.alloc (.cells #[.slice ba l ca, .slice bb l cb, .slice bp l cp, .slice bk (4 * l + 6) ck, .slice bz (7 * l + 3) cz] 57)) bz (7 * l + 3) Z8) := ⟨hbm.old HO56.out, hfa.2.old HO56.out, hfb.2.old HO56.out, hfp.old HO56.out, hfk.old HO56.out, hfz.old HO56.out⟩
  have HQ6 : Hid ((l <= ca /\ ca <= 9223372036854775807) /\ (l <= cb /\ cb <= 9223372036854775807)) := ⟨hfa.1, hfb.1⟩
  clear o5 hbm hfa hfb hfp hfk hfz HO56
  generalize w5.alloc (.cells #[.slice ba l ca, .slice bb l cb, .slice bp l cp, .slice bk (4 * l + 6) ck, .slice bz (7 * l + 3) cz] 57) = w6 at *
  generalize w5.heap.size = sb1 at *
  obtain ⟨g0, g1, g2, g3, g4⟩ := HGc.out _ HO6.out
  obtain ⟨j0, j1, j2, j3, j4, j5, j6, j7, j8⟩ := HJc.out _ HO6.out
  go_upto_region 7 with (go_at_call 32; refine (HRp.out _ (HW0.out.trans HO6.out)).mono ?_; rintro e w7 ⟨bm', cm', ba', ca', bb', cb', bp', cp', bk', ck', bz', cz', rfl, o7, hbm, hfa, hfb, hfp, hfk, hfz⟩)
  clear g0 g1 g2 g3 g4 j0 j1 j2 j3 j4 j5 j6 j7 j8 HRp
  have HO78 : Hid (Old w7 (w7.alloc (.cells #[.slice ba' l ca', .slice bb' l cb', .slice bp' l cp', .slice bk' (4 * l + 6) ck', .slice bz' (7 * l + 3) cz'] 57))) := (Old.refl _).alloc _
  have HO68 : Hid (Old w6 (w7.alloc (.cells #[.slice ba' l ca', .slice bb' l cb', .slice bp' l cp', .slice bk' (4 * l + 6) ck', .slice bz' (7 * l + 3) cz'] 57))) := o7.trans HO78.out
  have HR8 : Hid ((w7.alloc (.cells #[.slice ba' l ca', .slice bb' l cb', .slice bp' l cp', .slice bk' (4 * l + 6) ck', .slice bz' (7 * l + 3) cz'] 57)).heap[w7.heap.size]? = some (.cells #[.slice ba' l ca', .slice bb' l cb', .slice bp' l cp', .slice bk' (4 * l + 6) ck', .slice bz' (7 * l + 3) cz'] 57 (0, 0))) := heap_alloc_last _ _
  have HF8 : Hid (BoxF (w7.alloc (.cells #[.slice ba' l ca', .slice bb' l cb', .slice bp' l cp', .slice bk' (4 * l + 6) ck', .slice bz' (7 * l + 3) cz'] 57)) bm' l M /\ FacsIn (w7.alloc (.cells #[.slice ba' l ca', .slice bb' l cb', .slice bp' l cp', .slice bk' (4 * l + 6) ck', .slice bz' (7 * l + 3) cz'] 57)) ba' l A8 /\ FacsIn (w7.alloc (.cells #[.slice ba' l ca', .slice bb' l cb', .slice bp' l cp', .slice bk' (4 * l + 6) ck', .slice bz' (7 * l + 3) cz'] 57)) bb' l B8 /\ FacsIn (w7.alloc (.cells #[.slice ba' l ca', .slice bb' l cb', .slice bp' l cp', .slice bk' (4 * l + 6) ck', .slice bz' (7 * l + 3) cz'] 57)) bp' l P8 /\ FacsIn (w7.alloc (.cells #[.slice ba' l ca', .slice bb' l cb', .slice bp' l cp', .slice bk' (4 * l + 6) ck', .slice bz' (7 * l + 3) cz'] 57)) bk' (4 * l + 6) K8 /\ FacsIn (w7.alloc (.cells #[.slice ba' l ca', .slice bb' l cb', .slice bp' l cp', .slice bk' (4 * l + 6) ck', .slice bz' (7 * l + 3) cz'] 57)) bz' (7 * l + 3) Z8) := ⟨hbm.old HO78.out, hfa.2.old HO78.out, hfb.2.old HO78.out, hfp.old HO78.out, hfk.old HO78.out, hfz.old HO78.out⟩
  clear o7 hbm hfa hfb hfp hfk hfz HO78
  generalize w7.alloc (.cells #[.slice ba' l ca', .slice bb' l cb', .slice bp' l cp', .slice bk' (4 * l + 6) ck', .slice bz' (7 * l + 3) cz'] 57) = w8 at *
  generalize w7.heap.size = sb2 at *
  have HSs : Hid (∀ wx, Old w8 wx -> Calls prog 17 #[.slice bm l cm, .slice bm' l cm'] wx (Ret wx (.bool true))) := fun wx ho => HSa.out wx bm cm bm' cm' ((HF6.out.1.old HO68.out).old ho) (HF8.out.1.old ho)
  have HAl : Hid (∀ wx, Old w8 wx -> Calls prog 33 #[.agg #[.slice ba l ca, .slice bb l cb, .slice bp l cp, .slice bk (4 * l + 6) ck, .slice bz (7 * l + 3) cz], .agg #[.slice ba' l ca', .slice bb' l cb', .slice bp' l cp', .slice bk' (4 * l + 6) ck', .slice bz' (7 * l + 3) cz']] wx (Ret wx (.bool true))) := fun wx ho => by
   obtain ⟨_, a1, b1, p1, k1, z1⟩ := HF6.out
   obtain ⟨_, a2, b2, p2, k2, z2⟩ := HF8.out
   have ho6 := HO68.out.trans ho
   exact zeB ba l ca ba' ca' A8 bb l cb bb' cb' B8 bp l cp bp' cp' P8 bk (4 * l + 6) ck bk' ck' K8 bz (7 * l + 3) cz bz' cz' Z8 wx (by omega) (by omega) (by omega) (by omega) (by omega) (a1.old ho6) (a2.old ho) (b1.old ho6) (b2.old ho) (p1.old ho6) (p2.old ho) (k1.old ho6) (k2.old ho) (z1.old ho6) (z2.old ho)
  have HS1 : Hid (∀ wx, Old w8 wx -> wx.cell? ⟨sb1, 0, none⟩ = some (.slice ba l ca) /\ wx.cell? ⟨sb1, 1, none⟩ = some (.slice bb l cb) /\ wx.cell? ⟨sb1, 2, none⟩ = some (.slice bp l cp) /\ wx.cell? ⟨sb1, 3, none⟩ = some (.slice bk (4 * l + 6) ck) /\ wx.cell? ⟨sb1, 4, none⟩ = some (.slice bz (7 * l + 3) cz)) := fun wx ho => by
   have h := (ho.block _ (zah ((HO68.out.block _ (zah HR6.out)).trans HR6.out))).trans ((HO68.out.block _ (zah HR6.out)).trans HR6.out)
   exact g5 h
  have HS2 : Hid (∀ wx, Old w8 wx -> wx.cell? ⟨sb2, 0, none⟩ = some (.slice ba' l ca') /\ wx.cell? ⟨sb2, 1, none⟩ = some (.slice bb' l cb') /\ wx.cell? ⟨sb2, 2, none⟩ = some (.slice bp' l cp') /\ wx.cell? ⟨sb2, 3, none⟩ = some (.slice bk' (4 * l + 6) ck') /\ wx.cell? ⟨sb2, 4, none⟩ = some (.slice bz' (7 * l + 3) cz')) := fun wx ho => by
   have h := (ho.block _ (zah HR8.out)).trans HR8.out
   exact g5 h
  clear HSa
  go_upto_region 9 with (first
   | (go_at_call 17; refine (HSs.out _ (Old.refl _)).mono ?_; rintro e w9 ⟨rfl, o9⟩; obtain ⟨s0, s1, s2, s3, s4⟩ := HS1.out _ o9; obtain ⟨t0, t1, t2, t3, t4⟩ := HS2.out _ o9)
   | (go_at_call 33; refine (HAl.out _ o9).mono ?_; rintro e wa ⟨rfl, oa⟩))
  clear s0 s1 s2 s3 s4 t0 t1 t2 t3 t4 HSs HAl HS2
  have HO8a : Hid (Old w8 wa) := o9.trans oa
  have HOa : Hid (Old W wa) := (HO6.out.trans HO68.out).trans HO8a.out
  clear o9 oa
  obtain ⟨g0, g1, g2, g3, g4⟩ := HGc.out _ HOa.out
  obtain ⟨j0, j1, j2, j3, j4, j5, j6, j7, j8⟩ := HJc.out _ HOa.out
  obtain ⟨s0, s1, s2, s3, s4⟩ := HS1.out _ HO8a.out
  have HAx : Hid (Calls prog 34 #[gv P Q G H a m cap, .string (strOfNums label), .int .u64 y, .slice bi l ci, .slice bm l cm, .agg #[.slice ba l ca, .slice bb l cb, .slice bp l cp, .slice bk (4 * l + 6) ck, .slice bz (7 * l + 3) cz]] wa (Ret wa (.bool true))) := by
   obtain ⟨m1, a1, b1, p1, k1, z1⟩ := HF6.out
   have ho6 := HO68.out.trans HO8a.out
   exact HAcc.out wa bm cm ba ca bb cb bp cp bk ck bz cz (HW0.out.trans HOa.out) (m1.old ho6).boxs HQ6.out.1 HQ6.out.2 (a1.old ho6) (b1.old ho6) (p1.old ho6) (k1.old ho6) (z1.old ho6)
  go_wp2_with (go_at_call 34; refine HAx.out.mono ?_; rintro e wb ⟨rfl, ob⟩)
  go_ret
  exact ⟨rfl, (HW0.out.trans HOa.out).trans ob⟩
end
section
open Go.RowKit Go.ChangeShapes Go.WideShapes Go.Deep
section
variable {H : Type} {enc : TypeId × Value -> H} {P : Program} {w : World}
theorem cell_lt {b off : Nat} {v : Value} (h : w.cell? ⟨b, off, none⟩ = some v) : b < w.heap.size := by
 refine Classical.byContradiction fun hc => ?_
 have : w.heap[b]? = none := by simp; omega
 simp [World.cell?, this] at h
theorem open_facs {t e : TypeId} {fuel : Nat} {v : Value} {x : DataW H × List MemPlace} (ht : P.underlying t = some (.slice e)) (he : P.underlying e = some (.int .u64)) (hc : P.cellsOf e = 1)
  (h : DataW.trod enc P w 0 (fun _ => true) true fuel t [v] = some x) : ∃ (a : OA) (L C : Nat) (F : NI), v = .slice a L C /\ L <= C /\ C <= maxLen /\ FacsIn w a L F := by
 rcases open_ints ht he hc h with ⟨hcs, _⟩ | ⟨a, len, cap, zs, hcs, _, hl, hm, hz, _, hcell, hwz⟩
 ·exact ⟨none, 0, 0, fun _ => 0, by simpa using hcs, Nat.le_refl _, Nat.zero_le _, Or.inl rfl⟩
 ·simp only [if_true] at hz
  refine ⟨some a, len, cap, fun j => zs.getD j 0, by simpa using hcs, hl, hm, ?_⟩
  by_cases h0 : len = 0
  ·exact Or.inl h0
  ·obtain ⟨b, off, rfl, hc'⟩ := ints_at hcell (by omega)
   refine Or.inr ⟨b, off, rfl, cell_lt (hc' 0 (by omega)), fun j hj => ⟨hc' j (by omega), ?_⟩⟩
   have hj' : j < zs.length := by omega
   have e : zs.getD j 0 = zs[j] := by simp [List.getD, hj']
   show 0 <= zs.getD j 0 /\ zs.getD j 0 <= 18446744073709551615
   rw [e]
   exact bounds_u64 (hwz _ (List.getElem_mem hj'))
theorem open_rows {t e u s : TypeId} {f0 f1 f2 : Field} (ht : P.underlying t = some (.slice e)) (he : P.underlying e = some (.struct #[f0, f1, f2])) (hu : P.underlying u = some (.int .u64)) (hs : P.underlying s = some (.slice u))
  (o0 : f0.offset = 0) (o1 : f1.offset = 1) (o2 : f2.offset = 2) (t0 : f0.type = u) (t1 : f1.type = u) (t2 : f2.type = s) (ce : P.cellsOf e = 3) (cu : P.cellsOf u = 1) (cs : P.cellsOf s = 1)
  {a : OA} {n cap : Nat} {d : DataW H} {p : List MemPlace} (h : DataW.Trod enc P w 0 (fun _ => true) true t (.slice a n cap) d p) :
  n <= cap /\ ∃ (N A : NI) (FA : Nat -> Option Addr) (L C : Nat -> Nat) (F : NN), RowsIn w a n N A FA L C F := by
 obtain ⟨fuel, hf⟩ := h
 rcases open_slice ht hf with ⟨hcs, _⟩ | ⟨a', len, cap', m, k, D, Pl, hcs, _, hl, hm, hmm, _, hx⟩
 ·simp [Value.cells] at hcs
  obtain ⟨rfl, rfl, rfl⟩ := hcs
  exact ⟨Nat.le_refl _, fun _ => 0, fun _ => 0, fun _ => none, fun _ => 0, fun _ => 0, fun _ _ => 0, Or.inl rfl⟩
 simp [Value.cells] at hcs
 obtain ⟨rfl, rfl, rfl⟩ := hcs
 simp only [if_true] at hmm
 subst hmm
 refine ⟨hl, ?_⟩
 by_cases h0 : n = 0
 ·exact ⟨fun _ => 0, fun _ => 0, fun _ => none, fun _ => 0, fun _ => 0, fun _ _ => 0, Or.inl h0⟩
 rw [ce] at hx
 -- the address is a plain one
 obtain ⟨b, off, spot⟩ := a'
 have hspot : spot = none := by
  obtain ⟨cs0, hc0, _⟩ := hx 0 (by omega)
  obtain ⟨_, hlen, hcell⟩ := World.cells?_some hc0
  have g := hcell 0 (by omega)
  have : ∃ v, cs0[0]? = some v := ⟨cs0[0], by simp⟩
  obtain ⟨v, hv⟩ := this
  rw [hv] at g
  simpa [Addr.add] using World.cell?_spot g
 subst hspot
 have each : ∀ i, i < m -> ∃ y : Int × Int × Option Addr × Nat × Nat × (Nat -> Int), RowAt w b (off + i * 3) y.1 y.2.1 y.2.2.1 y.2.2.2.1 y.2.2.2.2.1 y.2.2.2.2.2 := by
  intro i hi
  obtain ⟨cs', h1, h2⟩ := hx i hi
  obtain ⟨_, hlen, hcell⟩ := World.cells?_some h1
  obtain ⟨y0, y1, y2, k', _, _, g0, g1, g2⟩ := trod_struct3 he h2
  match cs', hlen with
  | [v0, v1, v2], _ =>
   simp [o0, o1, o2, t0, t1, t2, cu, cs] at g0 g1 g2
   obtain ⟨x0, e0, _, w0⟩ := DataW.trod_int hu g0
   obtain ⟨x1, e1, _, w1⟩ := DataW.trod_int hu g1
   obtain ⟨fa, L, C, F, e2, hL, hC, hF⟩ := open_facs hs hu cu g2
   simp at e0 e1
   subst e0 e1 e2
   have c0 := hcell 0 (by omega)
   have c1 := hcell 1 (by omega)
   have c2 := hcell 2 (by omega)
   simp only [add_plain] at c0 c1 c2
   have b0 := bounds_u64 w0
   have b1 := bounds_u64 w1
   exact ⟨(x0, x1, fa, L, C, F), by simpa using c0, by simpa using c1, by simpa using c2, b0.1, b0.2, b1.1, b1.2, hL, hC, hF⟩
 obtain ⟨y, hy⟩ := choose_lt each
 refine ⟨fun i => (y i).1, fun i => (y i).2.1, fun i => (y i).2.2.1, fun i => (y i).2.2.2.1, fun i => (y i).2.2.2.2.1, fun i => (y i).2.2.2.2.2, Or.inr ⟨b, off, rfl, cell_lt (hy 0 (by omega)).c0, fun i hi => hy i (by omega)⟩⟩
end
end
section
open Go.RowKit Go.ChangeShapes Go.WideShapes Go.Deep
section
variable {H : Type} {enc : TypeId × Value -> H} {P : Program} {w : World}
theorem trod_struct5 {t : TypeId} {f0 f1 f2 f3 f4 : Field} {fuel : Nat} {cs : List Value} {x : DataW H × List MemPlace} (ht : P.underlying t = some (.struct #[f0, f1, f2, f3, f4])) (h : DataW.trod enc P w 0 (fun _ => true) true fuel t cs = some x) :
  ∃ y0 y1 y2 y3 y4 n, cs.length = P.cellsOf t /\ DataW.trod enc P w 0 (fun _ => true) true n f0.type ((cs.drop f0.offset).take (P.cellsOf f0.type)) = some y0 /\
   DataW.trod enc P w 0 (fun _ => true) true n f1.type ((cs.drop f1.offset).take (P.cellsOf f1.type)) = some y1 /\ DataW.trod enc P w 0 (fun _ => true) true n f2.type ((cs.drop f2.offset).take (P.cellsOf f2.type)) = some y2 /\
   DataW.trod enc P w 0 (fun _ => true) true n f3.type ((cs.drop f3.offset).take (P.cellsOf f3.type)) = some y3 /\ DataW.trod enc P w 0 (fun _ => true) true n f4.type ((cs.drop f4.offset).take (P.cellsOf f4.type)) = some y4 := by
 obtain ⟨xs, n, _, rfl, hl, hlen, hf⟩ := DataW.trod_struct ht h
 match xs, hlen with
 | [y0, y1, y2, y3, y4], _ => exact ⟨y0, y1, y2, y3, y4, n, hl, by simpa using hf 0 f0 rfl, by simpa using hf 1 f1 rfl, by simpa using hf 2 f2 rfl, by simpa using hf 3 f3 rfl, by simpa using hf 4 f4 rfl⟩
theorem open_params {t u r e s : TypeId} {f0 f1 f2 f3 f4 g0 g1 g2 : Field} (ht : P.underlying t = some (.struct #[f0, f1, f2, f3, f4])) (hu : P.underlying u = some (.int .u64)) (hr : P.underlying r = some (.slice e))
  (he : P.underlying e = some (.struct #[g0, g1, g2])) (hs : P.underlying s = some (.slice u)) (o0 : f0.offset = 0) (o1 : f1.offset = 1) (o2 : f2.offset = 2) (o3 : f3.offset = 3) (o4 : f4.offset = 4)
  (t0 : f0.type = u) (t1 : f1.type = u) (t2 : f2.type = u) (t3 : f3.type = u) (t4 : f4.type = r) (p0 : g0.offset = 0) (p1 : g1.offset = 1) (p2 : g2.offset = 2) (s0 : g0.type = u) (s1 : g1.type = u) (s2 : g2.type = s)
  (ct : P.cellsOf t = 5) (ce : P.cellsOf e = 3) (cu : P.cellsOf u = 1) (cr : P.cellsOf r = 1) (cs : P.cellsOf s = 1) {v : Value} {d : DataW H} {p : List MemPlace} (h : DataW.Trod enc P w 0 (fun _ => true) true t v d p) :
  ∃ (p q g k : Int) (a : OA) (n cap : Nat), v = gv p q g k a n cap /\ Four p q g k /\ n <= cap /\ ∃ (N A : NI) (FA : Nat -> Option Addr) (L C : Nat -> Nat) (F : NN), RowsIn w a n N A FA L C F := by
 obtain ⟨fuel, hf⟩ := h
 obtain ⟨y0, y1, y2, y3, y4, m, hl, k0, k1, k2, k3, k4⟩ := trod_struct5 ht hf
 rw [ct] at hl
 cases v with
 | agg c =>
  obtain ⟨l⟩ := c
  match l, hl with
  | [v0, v1, v2, v3, v4], _ =>
   simp [Value.cells, o0, o1, o2, o3, o4, t0, t1, t2, t3, t4, cu, cr] at k0 k1 k2 k3 k4
   obtain ⟨x0, e0, _, w0⟩ := DataW.trod_int hu k0
   obtain ⟨x1, e1, _, w1⟩ := DataW.trod_int hu k1
   obtain ⟨x2, e2, _, w2⟩ := DataW.trod_int hu k2
   obtain ⟨x3, e3, _, w3⟩ := DataW.trod_int hu k3
   simp at e0 e1 e2 e3
   subst e0 e1 e2 e3
   have hv4 : ∃ a n cap, v4 = .slice a n cap := by
    rcases open_slice hr k4 with ⟨hcs, _⟩ | ⟨a', len, cap', _, _, _, _, hcs, _⟩
    ·exact ⟨none, 0, 0, by simpa using hcs⟩
    ·exact ⟨some a', len, cap', by simpa using hcs⟩
   obtain ⟨a, n, cap, rfl⟩ := hv4
   have ko : DataW.Trod enc P w 0 (fun _ => true) true r (.slice a n cap) y4.1 y4.2 := ⟨m, by simpa [Value.cells] using k4⟩
   obtain ⟨hcap, N, A, FA, L, C, F, hin⟩ := open_rows hr he hu hs p0 p1 p2 s0 s1 s2 ce cu cs ko
   have b0 := bounds_u64 w0
   have b1 := bounds_u64 w1
   have b2 := bounds_u64 w2
   have b3 := bounds_u64 w3
   exact ⟨x0, x1, x2, x3, a, n, cap, rfl, ⟨b0.1, b0.2, b1.1, b1.2, b2.1, b2.2, b3.1, b3.2⟩, hcap, N, A, FA, L, C, F, hin⟩
 | _ => simp [Value.cells] at hl
end
end
section
open Go.RowKit Go.ChangeShapes Go.WideShapes Go.Deep
section
variable {H : Type} {enc : TypeId × Value -> H} {P : Program} {w : World}
theorem zcC {e : TypeId} (he : P.underlying e = some (.int .u64)) {m : Nat} {c : Value} {y : DataW H × List MemPlace} (h : DataW.trod enc P w 0 (fun _ => true) true m e [c] = some y) : ∃ x : Int, c = .int .u64 x /\ U64 x := by
 obtain ⟨x, hx, _, hw⟩ := DataW.trod_int he h
 simp at hx
 exact ⟨x, hx, (bounds_u64 hw).1, (bounds_u64 hw).2⟩
theorem zdG {t u : TypeId} {f0 f1 : Field} (ht : P.underlying t = some (.struct #[f0, f1])) (hu : P.underlying u = some (.int .u64)) (o0 : f0.offset = 0) (o1 : f1.offset = 1) (t0 : f0.type = u) (t1 : f1.type = u) (ct : P.cellsOf t = 2) (cu : P.cellsOf u = 1) {fuel : Nat} {cs : List Value} {x : DataW H × List MemPlace} (h : DataW.trod enc P w 0 (fun _ => true) true fuel t cs = some x) :
  ∃ x y : Int, cs = [.int .u64 x, .int .u64 y] /\ U64 x /\ U64 y := by
 obtain ⟨xs, n, _, rfl, hl, hlen, hf⟩ := DataW.trod_struct ht h
 rw [ct] at hl
 have g0 := hf 0 f0 rfl
 have g1 := hf 1 f1 rfl
 have hlen : xs.length = 2 := hlen
 rw [List.getElem?_eq_getElem (by omega)] at g0 g1
 match cs, hl with
 | [a, b], _ =>
  simp [o0, o1, t0, t1, cu] at g0 g1
  obtain ⟨x, rfl, bx⟩ := zcC hu g0
  obtain ⟨y, rfl, by_⟩ := zcC hu g1
  exact ⟨x, y, rfl, bx, by_⟩
end
end
section
open Go.RowKit Go.ChangeShapes Go.WideShapes Go.Deep
section
variable {H : Type} {enc : TypeId × Value -> H} {P : Program} {w : World}
theorem open_str {st : TypeId} (hst : P.underlying st = some .string) {m : Nat} {c : Value} {y : DataW H × List MemPlace} (h : DataW.trod enc P w 0 (fun _ => true) true m st [c] = some y) : ∃ lab : List Int, c = .string (strOfNums lab) /\ Bts lab := by
 obtain ⟨s, hs, _, _⟩ := DataW.trod_string hst h
 simp at hs
 subst hs
 exact ⟨zax s, by rw [numsOf_str], numsOf_bd s⟩
theorem arr3_cells {t e : TypeId} (ht : P.underlying t = some (.array 3 e)) (he : P.underlying e = some (.int .u64)) (hc : P.cellsOf e = 1) (hk : P.cellsOf t = 3) {fuel : Nat} {cs : List Value} {x : DataW H × List MemPlace} (h : DataW.trod enc P w 0 (fun _ => true) true fuel t cs = some x) :
  ∃ x y z : Int, cs = [.int .u64 x, .int .u64 y, .int .u64 z] /\ U64 x /\ U64 y /\ U64 z := by
 obtain ⟨xs, m, _, _, hl, hlx, hi⟩ := DataW.trod_array ht h
 rw [hk] at hl
 have g0 := hi 0 (by omega)
 have g1 := hi 1 (by omega)
 have g2 := hi 2 (by omega)
 rw [hc, List.getElem?_eq_getElem (by omega)] at g0 g1 g2
 match cs, hl with
 | [a, b, c], _ =>
  simp at g0 g1 g2
  obtain ⟨x, rfl, bx⟩ := zcC he g0
  obtain ⟨y, rfl, by_⟩ := zcC he g1
  obtain ⟨z, rfl, bz⟩ := zcC he g2
  exact ⟨x, y, z, rfl, bx, by_, bz⟩
end
end
section
open Go.RowKit Go.ChangeShapes Go.WideShapes Go.Deep
section
variable {H : Type} {enc : TypeId × Value -> H} {P : Program} {w : World}
theorem zdA {t e : TypeId} {sz : Nat} (mk : Int -> Value) (Bd : Int -> Prop) (hsz : 0 < sz) (ht : P.underlying t = some (.slice e)) (ce : P.cellsOf e = sz)
  (dec : ∀ (fuel : Nat) (cs : List Value) (x : DataW H × List MemPlace), DataW.trod enc P w 0 (fun _ => true) true fuel e cs = some x -> ∃ F : Nat -> Int, ∀ k, k < sz -> cs[k]? = some (mk (F k)) /\ Bd (F k))
  {fuel : Nat} {v : Value} {x : DataW H × List MemPlace} (h : DataW.trod enc P w 0 (fun _ => true) true fuel t [v] = some x) :
  ∃ (a : OA) (n cap : Nat) (F : NN), v = .slice a n cap /\ n <= cap /\ cap <= 9223372036854775807 /\ (n = 0 ∨ ∃ b off, a = some ⟨b, off, none⟩ /\ b < w.heap.size /\ ∀ j, j < n -> ∀ k, k < sz -> w.cell? ⟨b, off + j * sz + k, none⟩ = some (mk (F j k)) /\ Bd (F j k)) := by
 rcases open_slice ht h with ⟨hcs, _⟩ | ⟨a', len, cap', m, k, D, Pl, hcs, _, hl, hm, hmm, _, hx⟩
 ·exact ⟨none, 0, 0, fun _ _ => 0, by simpa using hcs, Nat.le_refl _, Nat.zero_le _, Or.inl rfl⟩
 simp only [if_true] at hmm
 subst hmm
 unfold maxLen at hm
 have hv : v = .slice (some a') len m := by simpa using hcs
 by_cases h0 : len = 0
 ·exact ⟨some a', len, m, fun _ _ => 0, hv, hl, by omega, Or.inl h0⟩
 rw [ce] at hx
 obtain ⟨b, off, spot⟩ := a'
 have hspot : spot = none := by
  obtain ⟨cs0, hc0, _⟩ := hx 0 (by omega)
  obtain ⟨_, hlen, hcell⟩ := World.cells?_some hc0
  have g := hcell 0 (by omega)
  have : ∃ v, cs0[0]? = some v := ⟨cs0[0], by simp⟩
  obtain ⟨v, hv⟩ := this
  rw [hv] at g
  simpa [Addr.add] using World.cell?_spot g
 subst hspot
 have each : ∀ i, i < m -> ∃ y : Nat -> Int, ∀ k, k < sz -> w.cell? ⟨b, off + i * sz + k, none⟩ = some (mk (y k)) /\ Bd (y k) := by
  intro i hi
  obtain ⟨cs', h1, h2⟩ := hx i hi
  obtain ⟨_, hlen, hcell⟩ := World.cells?_some h1
  obtain ⟨F, hF⟩ := dec _ _ _ h2
  refine ⟨F, fun k hk => ⟨?_, (hF k hk).2⟩⟩
  have c0 := hcell k (by omega)
  simp only [add_plain] at c0
  rw [c0]
  exact (hF k hk).1
 obtain ⟨y, hy⟩ := choose_lt each
 exact ⟨some ⟨b, off, none⟩, len, m, y, hv, hl, by omega, Or.inr ⟨b, off, rfl, cell_lt (hy 0 (by omega) 0 hsz).1, fun i hi => hy i (by omega)⟩⟩
theorem open_boxes8 {t e p u : TypeId} {f0 f1 : Field} (ht : P.underlying t = some (.slice e)) (he : P.underlying e = some (.array 3 p)) (hp : P.underlying p = some (.struct #[f0, f1])) (hu : P.underlying u = some (.int .u64)) (o0 : f0.offset = 0) (o1 : f1.offset = 1) (t0 : f0.type = u) (t1 : f1.type = u) (ce : P.cellsOf e = 6) (cp : P.cellsOf p = 2) (cu : P.cellsOf u = 1)
  {fuel : Nat} {v : Value} {x : DataW H × List MemPlace} (h : DataW.trod enc P w 0 (fun _ => true) true fuel t [v] = some x) :
  ∃ (a : OA) (n cap : Nat) (C : NN), v = .slice a n cap /\ n <= cap /\ cap <= 9223372036854775807 /\ BoxsIn w a n C :=
 zdA (.int .u64) U64 (by omega) ht ce (fun fuel cs x h => by
  obtain ⟨xs, n, _, _, hl, hlx, hi⟩ := DataW.trod_array he h
  rw [ce] at hl
  have g0 := hi 0 (by omega)
  have g1 := hi 1 (by omega)
  have g2 := hi 2 (by omega)
  rw [cp, List.getElem?_eq_getElem (by omega)] at g0 g1 g2
  match cs, hl with
  | [a, b, c, d', e', f'], _ =>
   simp at g0 g1 g2
   obtain ⟨x0, y0, e0, a0, b0⟩ := zdG hp hu o0 o1 t0 t1 cp cu g0
   obtain ⟨x1, y1, e1, a1, b1⟩ := zdG hp hu o0 o1 t0 t1 cp cu g1
   obtain ⟨x2, y2, e2, a2, b2⟩ := zdG hp hu o0 o1 t0 t1 cp cu g2
   simp at e0 e1 e2
   obtain ⟨rfl, rfl⟩ := e0
   obtain ⟨rfl, rfl⟩ := e1
   obtain ⟨rfl, rfl⟩ := e2
   refine ⟨fun k => [x0, y0, x1, y1, x2, y2].getD k 0, fun k hk => ?_⟩
   match k, hk with
   | 0, _ => exact ⟨rfl, a0⟩
   | 1, _ => exact ⟨rfl, b0⟩
   | 2, _ => exact ⟨rfl, a1⟩
   | 3, _ => exact ⟨rfl, b1⟩
   | 4, _ => exact ⟨rfl, a2⟩
   | 5, _ => exact ⟨rfl, b2⟩) h
theorem open_rhos8 {t e u : TypeId} (ht : P.underlying t = some (.slice e)) (he : P.underlying e = some (.array 3 u)) (hu : P.underlying u = some (.int .u64)) (ce : P.cellsOf e = 3) (cu : P.cellsOf u = 1)
  {fuel : Nat} {v : Value} {x : DataW H × List MemPlace} (h : DataW.trod enc P w 0 (fun _ => true) true fuel t [v] = some x) :
  ∃ (a : OA) (n cap : Nat) (R : NN), v = .slice a n cap /\ n <= cap /\ cap <= 9223372036854775807 /\ RhoIn w a n R :=
 zdA (.int .u64) U64 (by omega) ht ce (fun fuel cs x h => by
  obtain ⟨a, b, c, rfl, h0, h1, h2⟩ := arr3_cells he hu cu ce h
  refine ⟨fun k => [a, b, c].getD k 0, fun k hk => ?_⟩
  match k, hk with
  | 0, _ => exact ⟨rfl, h0⟩
  | 1, _ => exact ⟨rfl, h1⟩
  | 2, _ => exact ⟨rfl, h2⟩) h
theorem open_order8 {t e : TypeId} (ht : P.underlying t = some (.slice e)) (he : P.underlying e = some (.int .i64)) (ce : P.cellsOf e = 1)
  {fuel : Nat} {v : Value} {x : DataW H × List MemPlace} (h : DataW.trod enc P w 0 (fun _ => true) true fuel t [v] = some x) :
  ∃ (a : OA) (n cap : Nat) (O : NI), v = .slice a n cap /\ n <= cap /\ cap <= 9223372036854775807 /\ IntsIn w a n O := by
 obtain ⟨a, n, cap, F, e1, q1, q2, hF⟩ := zdA (.int .i64) (fun x => -9223372036854775808 <= x /\ x <= 9223372036854775807) (by omega) ht ce (fun fuel cs x h => by
  obtain ⟨x, hx, _, hw⟩ := DataW.trod_int he h
  subst hx
  refine ⟨fun _ => x, fun k hk => ?_⟩
  have : k = 0 := by omega
  subst this
  exact ⟨rfl, (bounds_i64 hw).1, (bounds_i64 hw).2⟩) h
 refine ⟨a, n, cap, fun j => F j 0, e1, q1, q2, ?_⟩
 rcases hF with h0 | ⟨b, off, ha, hb, hc⟩
 ·exact Or.inl h0
 ·exact Or.inr ⟨b, off, ha, hb, fun j hj => by have := hc j hj 0 (by omega); rwa [Nat.mul_one, Nat.add_zero] at this⟩
theorem zct {t u : TypeId} (ht : P.underlying t = some (.slice u)) (hu : P.underlying u = some (.int .u64)) (cu : P.cellsOf u = 1) {fuel : Nat} {v : Value} {x : DataW H × List MemPlace} (h : DataW.trod enc P w 0 (fun _ => true) true fuel t [v] = some x) :
  ∃ (a : OA) (n cap : Nat) (F : NI), v = .slice a n cap /\ n <= cap /\ cap <= 9223372036854775807 /\ FacsIn w a n F := by
 obtain ⟨a, n, cap, F, e, q1, q2, hF⟩ := open_facs ht hu cu h
 unfold maxLen at q2
 exact ⟨a, n, cap, F, e, q1, by omega, hF⟩
def DrawsIn (w : World) (bρ : OA) (nρ cρ : Nat) (Rh : NN) (bR : OA) (nR cR : Nat) (R : NI) (bS : OA) (nS cS : Nat) (S : NI) (bT : OA) (nT cT : Nat) (T : NI) (bD : OA) (nD cD : Nat) (D : NI) : Prop :=
 RhoIn w bρ nρ Rh /\ FacsIn w bR nR R /\ FacsIn w bS nS S /\ (nT <= cT /\ cT <= 9223372036854775807) /\ FacsIn w bT nT T /\ (nD <= cD /\ cD <= 9223372036854775807) /\ FacsIn w bD nD D
theorem draws_cells {t r ar s u : TypeId} {f0 f1 f2 f3 f4 : Field} (ht : P.underlying t = some (.struct #[f0, f1, f2, f3, f4])) (hr : P.underlying r = some (.slice ar)) (har : P.underlying ar = some (.array 3 u)) (hs : P.underlying s = some (.slice u)) (hu : P.underlying u = some (.int .u64)) (o0 : f0.offset = 0) (o1 : f1.offset = 1) (o2 : f2.offset = 2) (o3 : f3.offset = 3) (o4 : f4.offset = 4) (t0 : f0.type = r) (t1 : f1.type = s) (t2 : f2.type = s) (t3 : f3.type = s) (t4 : f4.type = s) (ct : P.cellsOf t = 5) (cr : P.cellsOf r = 1) (car : P.cellsOf ar = 3) (cs1 : P.cellsOf s = 1) (cu : P.cellsOf u = 1) {fuel : Nat} {cs : List Value} {x : DataW H × List MemPlace} (h : DataW.trod enc P w 0 (fun _ => true) true fuel t cs = some x) :
  ∃ bρ nρ cρ Rh bR nR cR R bS nS cS S bT nT cT T bD nD cD D, cs = [.slice bρ nρ cρ, .slice bR nR cR, .slice bS nS cS, .slice bT nT cT, .slice bD nD cD] /\ DrawsIn w bρ nρ cρ Rh bR nR cR R bS nS cS S bT nT cT T bD nD cD D := by
 obtain ⟨xs, n, _, _, hl, hlen, hf⟩ := DataW.trod_struct ht h
 rw [ct] at hl
 have g0 := hf 0 f0 rfl
 have g1 := hf 1 f1 rfl
 have g2 := hf 2 f2 rfl
 have g3 := hf 3 f3 rfl
 have g4 := hf 4 f4 rfl
 have hlen : xs.length = 5 := hlen
 rw [List.getElem?_eq_getElem (by omega)] at g0 g1 g2 g3 g4
 match cs, hl with
 | [a, b, c, d, e], _ =>
  simp [o0, o1, o2, o3, o4, t0, t1, t2, t3, t4, cr, cs1] at g0 g1 g2 g3 g4
  obtain ⟨bρ, nρ, cρ, Rh, rfl, _, _, h0⟩ := open_rhos8 hr har hu car cu g0
  obtain ⟨bR, nR, cR, R, rfl, _, _, h1⟩ := zct hs hu cu g1
  obtain ⟨bS, nS, cS, S, rfl, _, _, h2⟩ := zct hs hu cu g2
  obtain ⟨bT, nT, cT, T, rfl, p3, q3, h3⟩ := zct hs hu cu g3
  obtain ⟨bD, nD, cD, D, rfl, p4, q4, h4⟩ := zct hs hu cu g4
  exact ⟨bρ, nρ, cρ, Rh, bR, nR, cR, R, bS, nS, cS, S, bT, nT, cT, T, bD, nD, cD, D, rfl, h0, h1, h2, ⟨p3, q3⟩, h3, ⟨p4, q4⟩, h4⟩
theorem open_job8 {t st bx e p o ii dt r ar s u : TypeId} {f0 f1 f2 f3 f4 g0 g1 d0 d1 d2 d3 d4 : Field} (ht : P.underlying t = some (.struct #[f0, f1, f2, f3, f4])) (hst : P.underlying st = some .string) (hbx : P.underlying bx = some (.slice e)) (he : P.underlying e = some (.array 3 p)) (hp : P.underlying p = some (.struct #[g0, g1])) (ho : P.underlying o = some (.slice ii)) (hi : P.underlying ii = some (.int .i64)) (hd : P.underlying dt = some (.struct #[d0, d1, d2, d3, d4])) (hr : P.underlying r = some (.slice ar)) (har : P.underlying ar = some (.array 3 u)) (hs : P.underlying s = some (.slice u)) (hu : P.underlying u = some (.int .u64))
  (fo : f0.offset = 0 /\ f1.offset = 1 /\ f2.offset = 2 /\ f3.offset = 3 /\ f4.offset = 4) (ft : f0.type = st /\ f1.type = u /\ f2.type = bx /\ f3.type = o /\ f4.type = dt) (go : g0.offset = 0 /\ g1.offset = 1 /\ g0.type = u /\ g1.type = u) (dof : d0.offset = 0 /\ d1.offset = 1 /\ d2.offset = 2 /\ d3.offset = 3 /\ d4.offset = 4) (dty : d0.type = r /\ d1.type = s /\ d2.type = s /\ d3.type = s /\ d4.type = s)
  (cc : P.cellsOf t = 9 /\ P.cellsOf st = 1 /\ P.cellsOf bx = 1 /\ P.cellsOf e = 6 /\ P.cellsOf p = 2 /\ P.cellsOf o = 1 /\ P.cellsOf ii = 1 /\ P.cellsOf dt = 5 /\ P.cellsOf r = 1 /\ P.cellsOf ar = 3 /\ P.cellsOf s = 1 /\ P.cellsOf u = 1) {v : Value} {d : DataW H} {pl : List MemPlace} (h : DataW.Trod enc P w 0 (fun _ => true) true t v d pl) :
  ∃ (label : List Int) (y : Int) (bi : OA) (l ci : Nat) (C : NN) (bo : OA) (no co : Nat) (O : NI) (bρ : OA) (nρ cρ : Nat) (Rh : NN) (bR : OA) (nR cR : Nat) (R : NI) (bS : OA) (nS cS : Nat) (S : NI) (bT : OA) (nT cT : Nat) (T : NI) (bD : OA) (nD cD : Nat) (D : NI),
   v = jv label y bi l ci bo no co bρ nρ cρ bR nR cR bS nS cS bT nT cT bD nD cD /\ Bts label /\ U64 y /\ BoxsIn w bi l C /\ IntsIn w bo no O /\ DrawsIn w bρ nρ cρ Rh bR nR cR R bS nS cS S bT nT cT T bD nD cD D /\ (l <= ci /\ ci <= 9223372036854775807) /\ (no <= co /\ co <= 9223372036854775807) := by
 obtain ⟨m, hm⟩ := h
 obtain ⟨xs, n, _, _, hl, hlen, hf⟩ := DataW.trod_struct ht hm
 rw [cc.1] at hl
 have k0 := hf 0 f0 rfl
 have k1 := hf 1 f1 rfl
 have k2 := hf 2 f2 rfl
 have k3 := hf 3 f3 rfl
 have k4 := hf 4 f4 rfl
 have hlen : xs.length = 5 := hlen
 rw [List.getElem?_eq_getElem (by omega)] at k0 k1 k2 k3 k4
 obtain ⟨o0, o1, o2, o3, o4⟩ := fo
 obtain ⟨t0, t1, t2, t3, t4⟩ := ft
 obtain ⟨_, cst, cbx, ce, cp, co, ci, cdt, cr, car, cs, cu⟩ := cc
 cases v with
 | agg c =>
  obtain ⟨lst⟩ := c
  match lst, hl with
  | [a, b, c, d, e1, e2, e3, e4, e5], _ =>
   simp [Value.cells, o0, o1, o2, o3, o4, t0, t1, t2, t3, t4, cst, cbx, co, cdt, cu] at k0 k1 k2 k3 k4
   obtain ⟨lab, rfl, hb⟩ := open_str hst k0
   obtain ⟨y, rfl, by_⟩ := zcC hu k1
   obtain ⟨bi, l, ci2, C, rfl, p2, q2, h2⟩ := open_boxes8 hbx he hp hu go.1 go.2.1 go.2.2.1 go.2.2.2 ce cp cu k2
   obtain ⟨bo, no, co2, O, rfl, p3, q3, h3⟩ := open_order8 ho hi ci k3
   obtain ⟨bρ, nρ, cρ, Rh, bR, nR, cR, R, bS, nS, cS, S, bT, nT, cT, T, bD, nD, cD, D, ecs, hdr⟩ := draws_cells hd hr har hs hu dof.1 dof.2.1 dof.2.2.1 dof.2.2.2.1 dof.2.2.2.2 dty.1 dty.2.1 dty.2.2.1 dty.2.2.2.1 dty.2.2.2.2 cdt cr car cs cu k4
   simp at ecs
   obtain ⟨rfl, rfl, rfl, rfl, rfl⟩ := ecs
   exact ⟨lab, y, bi, l, ci2, C, bo, no, co2, O, bρ, nρ, cρ, Rh, bR, nR, cR, R, bS, nS, cS, S, bT, nT, cT, T, bD, nD, cD, D, rfl, hb, by_, h2, h3, hdr, ⟨p2, q2⟩, ⟨p3, q3⟩⟩
 | _ => simp [Value.cells] at hl
end
end
end Go.Proofs.YtlnmjbbpenhdbaaGreat
