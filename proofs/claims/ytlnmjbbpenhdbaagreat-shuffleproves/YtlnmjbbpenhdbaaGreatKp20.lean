/-
  What the proof needs, part 20.
-/
import Derived.Test.YtlnmjbbpenhdbaaGreatKp19
namespace Go.Proofs.YtlnmjbbpenhdbaaGreat
open Tryz
open List renaming set_cons_zero → Ls0, set_cons_succ → Ls1, drop_succ_cons → Ld1, drop_zero → Ld0, drop_nil → Ldn
open Tryz renaming underlying22 → U22, underlying25 → U25, underlying26 → U26, underlying29 → U29, underlying41 → U41, underlying48 → U48, underlying50 → U50, underlying74 → U74
set_option linter.unusedSimpArgs false
set_option linter.unusedVariables false
set_option maxRecDepth 100000
set_option maxHeartbeats 32000000
section
open Go Go.RowKit
theorem vi8 (x : Int) (k : Nat) (h : x = (k : Int)) (hk : k <= 1000) : Value.int .i64 (IntKind.i64.wrap x) = .int .i64 (k : Int) := by
 have : IntKind.i64.wrap x = (k : Int) := by rw [IntKind.wrap_i64]; omega
 rw [this]
theorem wi8 (x : Int) (k : Nat) (h : x = (k : Int)) (hk : k <= 1000) : IntKind.i64.wrap x = (k : Int) := by rw [IntKind.wrap_i64]; omega
def zfw (mm i : Nat) (Wf : NI) : Nat -> Int := fun k => if mm <= k /\ k < mm + i then Wf (k - mm) else 1
theorem zep {w : World} {b N mm : Nat} {Wf : NI} (h : Full w b N (fun _ => 1)) : Full w b N (zfw mm 0 Wf) := h.congr fun k _ => by unfold zfw; rw [if_neg (by omega)]
theorem zeo {w : World} {b N mm i : Nat} {Wf : NI} (h : Full w b N (zfw mm i Wf)) : Full (w.setCell ⟨b, mm + i, none⟩ (.int .u64 (Wf i))) b N (zfw mm (i + 1) Wf) := (h.set (mm + i) (Wf i)).congr fun k _ => by
 unfold zfw
 by_cases h1 : k = mm + i
 ·subst h1; rw [if_pos rfl, if_pos (by omega), show mm + i - mm = i by omega]
 ·rw [if_neg h1]
  by_cases h2 : mm <= k /\ k < mm + i
  ·rw [if_pos h2, if_pos (by omega)]
  ·rw [if_neg h2, if_neg (by omega)]
theorem zf9 {w : World} {b N mm n q : Nat} {Wf : NI} {z : Int} (h : Full w b N (zfw mm n Wf)) (hq : mm + n <= q) : Full (w.setCell ⟨b, q, none⟩ (.int .u64 z)) b N (rowS8 mm n Wf q z) := (h.set q z).congr fun k _ => by
 unfold zfw rowS8
 by_cases h1 : mm <= k /\ k < mm + n
 ·rw [if_neg (by omega), if_pos h1, if_pos h1]
 ·rw [if_neg h1, if_neg h1]
theorem row18_of {w : World} {b N p : Nat} {z : Int} (h : Full w b N (fun _ => 1)) : Full (w.setCell ⟨b, p, none⟩ (.int .u64 z)) b N (row18 p z) := (h.set p z).congr fun k _ => rfl
theorem Nums.app2 {w : World} {base k : Nat} {v : Value} {F : NI} {x z : Int} (h : w.ownsRow base 22 1 v (k + 2) ((List.range k).map (fun i => Value.int .u64 (F i)) ++ [.int .u64 x, .int .u64 z])) (hx : F k = x) (hz : F (k + 1) = z) : Nums w base v (k + 2) F := by
 unfold Nums
 rw [show k + 2 = (k + 1) + 1 from rfl, List.range_succ, List.map_append, List.range_succ, List.map_append, List.append_assoc]
 simpa [hx, hz] using h
theorem rclm8_yes (P Q G H : Int) (a : OA) (m cap : Nat) (y : Int) (bi : OA) (ci : Nat) (C : NN) (bo : OA) (co : Nat) (O : NN) (ba : OA) (ca : Nat) (A : NI) (X : Int) (bb : OA) (cb : Nat) (B : NI) (Y Z : Int) (bp : OA) (cp : Nat) (Pp : NI) (n : Nat) (w : World) (h1n : 0 < n) (hn : n <= 8) (h4 : Four P Q G H) (hy : U64 y) (hX : U64 X) (hY : U64 Y) (hZ : U64 Z) (hC : BoxsIn w bi n C) (hO : BoxsIn w bo n O) (hA : FacsIn w ba n A) (hB : FacsIn w bb n B) (hP : FacsIn w bp n Pp) (hE : eltB P Q y n C n O n A n B n Pp = true) (hD : Pp 0 = bigI P Q G (A 0) (B 0) Y Z) :
  Calls prog 29 #[gv P Q G H a m cap, .int .u64 y, .slice bi n ci, .slice bo n co, tk ba n ca X bb n cb Y Z bp n cp] w (GivD w true (4 * n + 6) (tgtT P Q G X Y Z n A B Pp (fun j w => C j (2 * w)) (fun j w => C j (2 * w + 1))) (fun _ => 7 * n + 3) (bas8 n Pp G H y (fun j w => O j (2 * w)) (fun j w => O j (2 * w + 1)))) := by
 obtain ⟨T, hT⟩ : ∃ T, T = (tgtT P Q G X Y Z n A B Pp (fun j w => C j (2 * w)) (fun j w => C j (2 * w + 1))) := ⟨_, rfl⟩
 obtain ⟨R, hRr⟩ : ∃ R, R = (bas8 n Pp G H y (fun j w => O j (2 * w)) (fun j w => O j (2 * w + 1))) := ⟨_, rfl⟩
 rw [<- hT, <- hRr]
 have HT1 : Hid (∀ i, i < n -> T i = A i) := fun i hi => by rw [hT]; exact tgt_a hi
 have HT2 : Hid (∀ i, i < n -> T (n + i) = B i) := fun i hi => by rw [hT]; exact tgt_b hi
 have HT3 : Hid (∀ i, i < n -> T (2 * n + i) = bigI P Q G (A i) (B i) Y Z) := fun i hi => by rw [hT]; exact tgt_d hi
 have HT4 : Hid (∀ i, i + 1 < n -> T (3 * n + i) = Pp (i + 1)) := fun i hi => by rw [hT]; exact tgt_p hi
 have HT5 : Hid (T (3 * n + (n - 1)) = lastI P Q G X Y Z n (Pp (n - 1))) := by unfold Hid; rw [hT]; exact tgt_l h1n
 have HT6 : Hid (∀ e, T (4 * n + 2 * e) = prodI P (fun j => expI P Q (C j (2 * e)) (powI X ((j : Int) + 1) Q)) n) := fun e => by rw [hT]; exact tgt_u h1n
 have HT7 : Hid (∀ e, T (4 * n + 2 * e + 1) = prodI P (fun j => expI P Q (C j (2 * e + 1)) (powI X ((j : Int) + 1) Q)) n) := fun e => by rw [hT]; exact tgt_v h1n
 have HR1 : Hid (∀ i, i < n -> R i = row28 i G (n + i) H) := fun i hi => by rw [hRr]; exact bas_a hi
 have HR2 : Hid (∀ i, i < n -> R (n + i) = row28 (2 * n + i) G (3 * n + i) H) := fun i hi => by rw [hRr]; exact bas_b hi
 have HR3 : Hid (∀ i, i < n -> R (2 * n + i) = row28 (4 * n + i) G (5 * n + i) H) := fun i hi => by rw [hRr]; exact bas_d hi
 have HR4 : Hid (∀ i, i + 1 < n -> R (3 * n + i) = row28 (4 * n + (i + 1)) (Pp i) (6 * n + i) H) := fun i hi => by rw [hRr]; exact bas_p hi
 have HR5 : Hid (R (3 * n + (n - 1)) = row18 (7 * n - 1) H) := by unfold Hid; rw [hRr]; exact bas_l h1n
 have HR6 : Hid (∀ e, R (4 * n + 2 * e) = rowS8 (2 * n) n (fun i => O i (2 * e)) (7 * n + e) G) := fun e => by rw [hRr]; exact bas_u h1n
 have HR7 : Hid (∀ e, R (4 * n + 2 * e + 1) = rowS8 (2 * n) n (fun i => O i (2 * e + 1)) (7 * n + e) y) := fun e => by rw [hRr]; exact bas_v h1n
 obtain ⟨hin, hba, hbo, hea, heb, hep⟩ := eltB_iff.1 hE
 have HBi : Hid (∀ wx, Old w wx -> Calls prog 54 #[gv P Q G H a m cap, .slice bi n ci] wx (Ret wx (.bool true))) := fun wx ho => by have h := zfL P Q G H a m cap bi n ci C wx h4 (by omega) (hC.old ho); rw [hba] at h; exact h
 have HBo : Hid (∀ wx, Old w wx -> Calls prog 54 #[gv P Q G H a m cap, .slice bo n co] wx (Ret wx (.bool true))) := fun wx ho => by have h := zfL P Q G H a m cap bo n co O wx h4 (by omega) (hO.old ho); rw [hbo] at h; exact h
 have HIn : Hid (∀ wx, Calls prog 55 #[gv P Q G H a m cap, .int .u64 y] wx (Ret wx (.bool true))) := fun wx => by have h := zdu P Q G H y a m cap wx h4.q0 h4.q1 hy.2; rw [hin] at h; exact h
 have HEa : Hid (∀ wx, Old w wx -> Calls prog 84 #[gv P Q G H a m cap, .slice ba n ca] wx (Ret wx (.bool true))) := fun wx ho => by have h := zbN P Q G H a m cap ba n ca A wx h4 (by omega) (hA.old ho); rw [hea] at h; exact h
 have HEb : Hid (∀ wx, Old w wx -> Calls prog 84 #[gv P Q G H a m cap, .slice bb n cb] wx (Ret wx (.bool true))) := fun wx ho => by have h := zbN P Q G H a m cap bb n cb B wx h4 (by omega) (hB.old ho); rw [heb] at h; exact h
 have HEp : Hid (∀ wx, Old w wx -> Calls prog 84 #[gv P Q G H a m cap, .slice bp n cp] wx (Ret wx (.bool true))) := fun wx ho => by have h := zbN P Q G H a m cap bp n cp Pp wx h4 (by omega) (hP.old ho); rw [hep] at h; exact h
 have HBg := hid fun wx i (hi : i < n) (ho : Old w wx) => rbig8_any P Q G H a m cap ba n ca X bb n cb Y Z bp n cp A B i wx h4 hi hi hY hZ (hA.old ho) (hB.old ho)
 have HBg0 : Hid (∀ wx, Old w wx -> Calls prog 67 #[gv P Q G H a m cap, tk ba n ca X bb n cb Y Z bp n cp, .int .i64 0] wx (Ret wx (.int .u64 (Pp 0)))) := fun wx ho => by rw [hD]; exact HBg.out wx 0 h1n ho
 obtain ⟨N, hN⟩ : ∃ N, N = 7 * n + 3 := ⟨_, rfl⟩
 have HRw : Hid (∀ wx, Calls prog 85 #[.int .i64 (n : Int)] wx (GivF wx N fun _ => 1)) := fun wx => by rw [hN]; exact rrow8_any n wx hn
 have HPr8 : Hid (∀ wx, Calls prog 87 #[gv P Q G H a m cap, .int .i64 (n : Int), .int .u64 X, .int .u64 Y, .int .u64 Z] wx (Ret wx (.int .u64 (prodI Q (kF Q X Y Z) n)))) := fun wx => rproduct8_any P Q G H a m cap n X Y Z wx (by omega) hX hY hZ
 have HPw : Hid (∀ wx (i : Nat), i < n -> Calls prog 62 #[gv P Q G H a m cap, .int .u64 X, .int .i64 ((i : Int) + 1)] wx (Ret wx (.int .u64 (powI X ((i : Int) + 1) Q)))) := fun wx i hi => zfv P Q G H a m cap X ((i : Int) + 1) wx hX ⟨by omega, by omega⟩
 have HNN := hid hN
 rw [<- hN]
 have HPu := hid hP.u64
 have H4 := hid h4
 rcases hA with h0 | ⟨ba, oa, rfl, _, hra⟩
 ·omega
 rcases hB with h0 | ⟨bb, ob, rfl, _, hrb⟩
 ·omega
 rcases hP with h0 | ⟨bp, op, rfl, _, hrp⟩
 ·omega
 rcases hC with h0 | ⟨bi, oi, rfl, _, hrc⟩
 ·omega
 rcases hO with h0 | ⟨bo, oo, rfl, _, hro⟩
 ·omega
 have HA0 := hid fun wx i (hi : i < n) (ho : Old w wx) => ho.cellOf (hra i hi).1
 have HB0 := hid fun wx i (hi : i < n) (ho : Old w wx) => ho.cellOf (hrb i hi).1
 have HP0 := hid fun wx i (hi : i < n) (ho : Old w wx) => ho.cellOf (hrp i hi).1
 have HC0 := hid fun wx j k (hj : j < n) (hk : k < 6) (ho : Old w wx) => ho.cellOf (hrc j hj k hk).1
 have HO0 := hid fun wx j k (hj : j < n) (hk : k < 6) (ho : Old w wx) => ho.cellOf (hro j hj k hk).1
 have HCu := hid fun j k (hj : j < n) (hk : k < 6) => (hrc j hj k hk).2
 obtain ⟨i0, hi0, hz0, hz1, hz2⟩ := info_parts zbj
 obtain ⟨i1, hi1, hy0, hy1, hy2⟩ := info_parts slinfo
 have HI : Hid ((prog.info? 22 = some i0 /\ i0.zero = some (.int .u64 0) /\ i0.size = 1 /\ i0.bytes = 8) /\ prog.info? 29 = some i1 /\ i1.zero = some (.slice none 0 0) /\ i1.size = 1 /\ i1.bytes = 24) := ⟨⟨hi0, hz0, hz1, hz2⟩, hi1, hy0, hy1, hy2⟩
 clear hN hi0 hz0 hz1 hz2 hi1 hy0 hy1 hy2 hra hrb hrp hrc hro hT hRr hE hD hin hba hbo hea heb hep h4
 have HZ := lain3 w (gc P Q G H a m cap) (tkc (some ⟨ba, oa, none⟩) n ca X (some ⟨bb, ob, none⟩) n cb Y Z (some ⟨bp, op, none⟩) n cp) (cc none 0 0 none 0 0) 25 41 50
 have HG0 := fun w' ho => (HZ.then (W' := w') ho).row 0 (by simp)
 have HTk0 := fun w' ho => (HZ.then (W' := w') ho).row 1 (by simp)
 have HCl0 := fun w' ho => (HZ.then (W' := w') ho).row 2 (by simp)
 have HW0 := hid HZ.old
 have HWs : Hid ((((w.alloc (.cells (gc P Q G H a m cap) 25)).alloc (.cells (tkc (some ⟨ba, oa, none⟩) n ca X (some ⟨bb, ob, none⟩) n cb Y Z (some ⟨bp, op, none⟩) n cp) 41)).alloc (.cells (cc none 0 0 none 0 0) 50)).heap.size = w.heap.size + 1 + 1 + 1) := by unfold Hid; simp
 clear HZ
 go_enter func29, ntmps29
 go_upto_region 1 with fail
 generalize (((w.alloc (.cells (gc P Q G H a m cap) 25)).alloc (.cells (tkc (some ⟨ba, oa, none⟩) n ca X (some ⟨bb, ob, none⟩) n cb Y Z (some ⟨bp, op, none⟩) n cp) 41)).alloc (.cells (cc none 0 0 none 0 0) 50)) = W at *
 have HG := hid HG0
 have HTk := hid HTk0
 have HCl := hid HCl0
 clear HG0 HTk0 HCl0
 obtain ⟨gb, hgb⟩ : ∃ gb, gb = w.heap.size := ⟨_, rfl⟩
 rw [<- hgb] at HG HTk HCl HWs
 rw [<- hgb]
 have Hgb : Hid (w.heap.size <= gb + 1 + 1) := by unfold Hid; omega
 clear hgb
 have HGc : Hid (∀ wx, Old W wx -> G5 wx (gb) P Q G H (.slice a m cap)) := fun wx ho => g5 (HG.out _ ho)
 have HTc : Hid (∀ wx, Old W wx -> wx.cell? ⟨gb + 1, 0, none⟩ = some (.slice (some ⟨ba, oa, none⟩) n ca) /\ wx.cell? ⟨gb + 1, 1, none⟩ = some (.int .u64 X) /\ wx.cell? ⟨gb + 1, 2, none⟩ = some (.slice (some ⟨bb, ob, none⟩) n cb) /\ wx.cell? ⟨gb + 1, 3, none⟩ = some (.int .u64 Y) /\ wx.cell? ⟨gb + 1, 4, none⟩ = some (.int .u64 Z) /\ wx.cell? ⟨gb + 1, 5, none⟩ = some (.slice (some ⟨bp, op, none⟩) n cp)) := fun wx ho => ⟨Y0 (HTk.out _ ho), Y1 (HTk.out _ ho), Y2 (HTk.out _ ho), Y3 (HTk.out _ ho), Y4 (HTk.out _ ho), Y5 (HTk.out _ ho)⟩
 have HAc := hid fun wx i (hi : i < n) (ho : Old W wx) => HA0.out wx i hi (HW0.out.trans ho)
 have HBc := hid fun wx i (hi : i < n) (ho : Old W wx) => HB0.out wx i hi (HW0.out.trans ho)
 have HPc := hid fun wx i (hi : i < n) (ho : Old W wx) => HP0.out wx i hi (HW0.out.trans ho)
 have HCc := hid fun wx j k (hj : j < n) (hk : k < 6) (ho : Old W wx) => HC0.out wx j k hj hk (HW0.out.trans ho)
 have HOc := hid fun wx j k (hj : j < n) (hk : k < 6) (ho : Old W wx) => HO0.out wx j k hj hk (HW0.out.trans ho)
 clear HA0 HB0 HP0 HC0 HO0
 go_upto_region 3 with fail
 have HO2 : Hid (Old W (W.alloc (.cells #[.slice none 0 0, .slice none 0 0] 50))) := (Old.refl _).alloc _
 generalize W.alloc (.cells #[.slice none 0 0, .slice none 0 0] 50) = W2 at *
 obtain ⟨g0, g1, g2, g3, g4⟩ := HGc.out _ HO2.out
 go_upto_region 5 with (first
  | (go_at_call 55; have hg := o2; refine (HIn.out _).mono ?_; rintro e w3 ⟨rfl, o3⟩; obtain ⟨t0, t1, t2, t3, t4, t5⟩ := HTc.out _ (((HO2.out.trans o1).trans o2).trans o3))
  | (go_at_call 54; have hg := o1; refine (HBo.out _ ((HW0.out.trans HO2.out).trans o1)).mono ?_; rintro e w2 ⟨rfl, o2⟩; obtain ⟨g0, g1, g2, g3, g4⟩ := HGc.out _ ((HO2.out.trans o1).trans o2))
  | (go_at_call 54; refine (HBi.out _ (HW0.out.trans HO2.out)).mono ?_; rintro e w1 ⟨rfl, o1⟩; obtain ⟨g0, g1, g2, g3, g4⟩ := HGc.out _ (HO2.out.trans o1)))
 have HO5 := hid (((HO2.out.trans o1).trans o2).trans o3)
 clear g0 g1 g2 g3 g4 o1 o2 o3 t0 t1 t2 t3 t4 t5 HBi HBo HIn HO2
 have HG5 := hid fun wx (ho : Old w3 wx) => HG.out _ (HO5.out.trans ho)
 have HT5k := hid fun wx (ho : Old w3 wx) => HTk.out _ (HO5.out.trans ho)
 have HP5 := hid fun wx (ho : Old w3 wx) => HPc.out wx 0 h1n (HO5.out.trans ho)
 have hne : Hid (Value.bool (!(Pp 0 == Pp 0)) = .bool false) := by unfold Hid; simp
 refine zae 29 [.k (gv P Q G H a m cap), .k (.pointer (some ⟨gb + 1, 0, none⟩)), .k (.slice (some ⟨ba, oa, none⟩) n ca), .k (.bool true), .k (.bool false), .k (.bool false), .k (gv P Q G H a m cap), .k (.pointer (some ⟨gb + 1, 2, none⟩)), .k (.slice (some ⟨bb, ob, none⟩) n cb), .k (.bool true), .k (.bool false), .k (.bool false), .k (.bool false), .k (gv P Q G H a m cap), .k (.pointer (some ⟨gb + 1, 5, none⟩)), .k (.slice (some ⟨bp, op, none⟩) n cp), .k (.bool true), .k (.bool false), .k (.bool false), .k (.bool false), .k (.pointer (some ⟨gb + 1, 5, none⟩)), .k (.slice (some ⟨bp, op, none⟩) n cp), .k (.pointer (some ⟨bp, op, none⟩)), .k (.int .u64 (Pp 0)), .k (gv P Q G H a m cap), .k (tk (some ⟨ba, oa, none⟩) n ca X (some ⟨bb, ob, none⟩) n cb Y Z (some ⟨bp, op, none⟩) n cp), .k (.int .u64 (Pp 0)), .k (.bool false), .k (.bool false)] (Old w3) (by kernel_rfl) (by kernel_rfl) rfl ((Old.refl _).drew) ?st ?_
 case st =>
  refine .c (stsz U25 HG5.out) <| .c stpz <| .c (stfz 0 U29 HT5k.out) <| .c (stKz old_R func84 (fun wx hx => HEa.out wx ((HW0.out.trans HO5.out).trans hx))) <| .c stpz <| .c stpz <| .c (stsz U25 HG5.out) <| .c stpz <| .c (stfz 2 U29 HT5k.out) <| .c (stKz old_R func84 (fun wx hx => HEb.out wx ((HW0.out.trans HO5.out).trans hx))) <| .c stpz <| .c stpz <| .c stpz <| .c (stsz U25 HG5.out) <| .c stpz <| .c (stfz 5 U29 HT5k.out) <| .c (stKz old_R func84 (fun wx hx => HEp.out wx ((HW0.out.trans HO5.out).trans hx))) <| .c stpz <| .c stpz <| .c stpz <| .c stpz <| .c (stfz 5 U29 HT5k.out) <| .c (stiz (n := n) (c := cp) (i := 0) h1n U29) <| .c (stlz U22 HP5.out) <| .c (stsz U25 HG5.out) <| .c (stsz U41 HT5k.out) <| .c (stKz old_R func67 (fun wx hx => HBg0.out wx ((HW0.out.trans HO5.out).trans hx))) <| .c (stvz (v' := .bool (!(Pp 0 == Pp 0))) hne.out) <| .c stpz .n
 intro t wx hR hk
 simp only [fill, Ent.val, Ls0, Ls1, Ld1, Ld0, Ldn]
 have HO6 := hid (HO5.out.trans hR)
 clear hR hk HG5 HT5k HP5 hne HEa HEb HEp HBg0 HO5
 go_upto_region 9 with fail
 have HO8 : Hid (Old W (wx.alloc (.cells #[.slice none 0 0, .slice none 0 0] 50))) := HO6.out.alloc _
 have HC8 : Hid ((wx.alloc (.cells #[.slice none 0 0, .slice none 0 0] 50)).heap[wx.heap.size]? = some (.cells #[.slice none 0 0, .slice none 0 0] 50 (0, 0))) := heap_alloc_last _ _
 have Hs : Hid (W.heap.size <= wx.heap.size) := HO6.out.size
 clear HO6
 generalize wx.alloc (.cells #[.slice none 0 0, .slice none 0 0] 50) = wc at *
 generalize wx.heap.size = s at *
 have HL0 : Hid (ClY W s N T R 0 wc) := ClY.new Hs.out HO8.out HC8.out
 clear HO8 HC8
 go_loopw [15] (fun iv wx => ∃ i : Nat, iv = .int .i64 (i : Int) /\ i <= n /\ Hid (ClY W s N T R (i) wx)) (fun iv _ => n - (intOf iv).toNat)
 case atStart => exact ⟨0, rfl, by omega, HL0⟩
 case round =>
  obtain ⟨i, rfl, hi, HL⟩ := hrel
  by_cases hlt : i < n
  ·have hlt2 : i < n := hlt
   obtain ⟨k, hk0⟩ : ∃ k, k = i := ⟨_, rfl⟩
   have Hk := hid hk0
   rw [<- hk0] at HL
   have hk80 : k <= 80 := by omega
   clear hk0
   go_upto_region 12 with (go_at_call 85; refine (HRw.out _).mono ?_; rintro e w1 ⟨o1, rb, hrb, rfl, hf1⟩)
   obtain ⟨v, u, bk, hv⟩ := HL.out
   have HFr := hid (hv.fr hrb)
   have HV := hid hv
   have Hrb := hid hrb
   have HOr := hid HL.out.old
   have hNN : N = 7 * n + 3 := HNN.out
   obtain ⟨q, hq⟩ : ∃ q, q = n + i := ⟨_, rfl⟩
   have HQ : Hid (Value.int .i64 (IntKind.i64.wrap ((n : Int) + (i : Int))) = .int .i64 (q : Int)) := vi8 _ q (by omega) (by omega)
   have hp8 : i < N := by omega
   have hq8 : q < N := by omega
   have hpq : i ≠ q := by omega
   have HTg : Hid (T k = A i) := by unfold Hid; rw [Hk.out]; exact HT1.out i hlt2
   have HRg : Hid (R k = row28 i (G) q H) := by unfold Hid; rw [Hk.out, hq]; exact HR1.out i hlt2
   clear hq hNN
   have HRo : Hid (Row1 wr rb N i w1) := Row1.of o1 hf1
   clear hv o1 hrb hf1 HL
   have HGr := hid fun wx (h : Row1 wr rb N i wx) => HG.out _ (HOr.out.trans h.1)
   have HTr := hid fun wx (h : Row1 wr rb N i wx) => HTk.out _ (HOr.out.trans h.1)
   refine zae 12 [.k (.slice (some ⟨rb, 0, none⟩) N N), .k (.int .i64 (i : Int)), .k (.slice (some ⟨rb, 0, none⟩) N N), .k (.int .i64 (n : Int)), .k (.int .i64 (i : Int)), .k (.int .i64 (q : Int)), .k (.pointer (some ⟨gb, 2, none⟩)), .k (.int .u64 G), .k (.pointer (some ⟨gb, 3, none⟩)), .k (.int .u64 H), .k (.pointer (some ⟨rb, i, none⟩)), zfI rb N i (G)] (Row1 wr rb N i) (by kernel_rfl) (by kernel_rfl) rfl (Row1.old _ _ HRo.out (Old.refl _).drew) ?st ?_
   case st =>
    refine .c stpz <| .c stpz <| .c stpz <| .c stpz <| .c stpz <| .c (stvz HQ.out) <| .c stpz <| .c (stfz 2 U22 HGr.out) <| .c stpz <| .c (stfz 3 U22 HGr.out) <| .c (sti0z (n := N) (c := N) hp8 U29) <| .c (stSz (p := ⟨rb, i, none⟩) (v := .int .u64 (G)) (fun _ => row_stS (j := 11) rfl rfl hp8 Hrb.out)) .n
   intro t wx hR hk
   simp only [fill, Ent.val, zfI, Ls0, Ls1, Ld1, Ld0, Ldn]
   have hl : Full wx rb N (fun r => if r = i then G else 1) := hk 11 (by omega)
   have q1 := hl.cell q hq8
   have f1 := hl.free q
   have HF : Hid (Full (wx.setCell ⟨rb, q, none⟩ (.int .u64 H)) rb N (row28 i (G) q H)) := zcB hl hpq
   have HV2 : Hid (ClV W s N T R k k v u bk (wx.setCell ⟨rb, q, none⟩ (.int .u64 H))) := HV.out.old' (hR.1.setCell (p := ⟨rb, q, none⟩) Hrb.out _)
   clear hl hk hR HV HGr HRo HTr
   go_upto_region 13 with fail
   clear q1 f1
   generalize wx.setCell ⟨rb, q, none⟩ (.int .u64 H) = w2 at *
   have HSc := hid fun wy (ho : Old w2 wy) => (HV2.out.old' ho).row
   have HG2 := hid fun wy (ho : Old w2 wy) => HG.out _ (HV2.out.ly.old.trans ho)
   have HT2 := hid fun wy (ho : Old w2 wy) => HTk.out _ (HV2.out.ly.old.trans ho)
   have HX2 := hid fun wy (ho : Old w2 wy) => HAc.out _ _ hlt2 (HV2.out.ly.old.trans ho)
   refine zae 8 [.k (.pointer (some ⟨s, 0, none⟩)), .k (v), .k (.pointer (some ⟨gb + 1, 0, none⟩)), .k (.slice (some ⟨ba, oa, none⟩) n ca), .k (.int .i64 (i : Int)), .k (.pointer (some ⟨ba, oa + i, none⟩)), .k (.int .u64 (A i)), blkE 1 #[.int .u64 (A i)] 22] (Old w2) (by kernel_rfl) (by kernel_rfl) rfl ((Old.refl _).drew) ?st ?_
   case st =>
    refine .c stpz <| .c (stfz 0 U29 HSc.out) <| .c stpz <| .c (stfz 0 U29 HT2.out) <| .c stpz <| .c (stiz (n := n) (c := ca) hlt2 U29) <| .c (stlz U22 HX2.out) <| .c (stmz (ob := fun t => .cells #[.int .u64 (A i)] 22) (v := fun s => .slice (some ⟨s, 0, none⟩) 1 1) old_R fun t wx hR hd => ⟨_, rfl, heap_alloc_last _ _⟩) .n
   intro t wz hR2 hk2
   simp only [fill, Ent.val, blkE, Ls0, Ls1, Ld1, Ld0, Ldn]
   obtain ⟨bs, ebs, hbs⟩ : ∃ b, t 7 = .slice (some ⟨b, 0, none⟩) 1 1 /\ wz.heap[b]? = some (.cells #[.int .u64 (A i)] 22 (0, 0)) := hk2 7 (by omega)
   rw [ebs]
   have HVz := hid (HV2.out.old' hR2)
   have HFz := hid (HF.out.old hR2)
   have HSz := hid HVz.out.ly.big
   clear hk2 hR2 HSc HG2 HT2 HX2 HV2 HF
   obtain ⟨⟨hi0, hz0, hz1, hz2⟩, hi1, hy0, hy1, hy2⟩ := HI.out
   go_wp2_with (at_builtin; refine wpList_append_lies _ rfl _ _ 29 rfl (s + 1) 22 i0 (.int .u64 0) 1 8 U29 hi0 hz0 hz1 hz2 rfl (by decide) _ _ _ rfl HVz.out.ly.nums ⟨bs, 0, none⟩ 1 1 [.int .u64 (A i)] rfl rfl ?c1 ?c2 (by decide) ?c3 ?c4 HSz.out _ rfl ?_)
   case c1 => exact za5 hbs
   case c2 => intro u hu; simp at hu; rcases hu with rfl; rfl
   case c3 => unfold maxLen; omega
   case c4 => omega
   intro g9 cap9 w9 hown9 hgrow9 hat9 _
   have hn9 : Nums w9 (s + 1) (.slice (some ⟨g9, 0, none⟩) (k + 1) cap9) (k + 1) T := Nums.app hown9 HTg.out
   obtain ⟨q0, f0, hv9⟩ := HVz.out.tgtn (m := 1) hn9 hgrow9 hat9
   obtain ⟨hr9, hl9⟩ := HFr.out.tgt (m := k + 1) (cap := cap9) hgrow9 hat9 HFz.out
   have HV9 := hid hv9
   have HF9 : Hid (Full (w9.setCell ⟨s, 0, none⟩ (.slice (some ⟨g9, 0, none⟩) (k + 1) cap9)) rb N (row28 i (G) q H)) := hl9 _ _
   have HR9 := hid hr9
   clear hv9 hr9 hl9 hn9 hown9 hgrow9 hat9 HVz HFz HFr hbs ebs HSz HTg hi0 hz0 hz1 hz2 hi1 hy0 hy1 hy2
   go_upto_region 14 with fail
   clear q0 f0
   generalize w9.setCell ⟨s, 0, none⟩ (.slice (some ⟨g9, 0, none⟩) (k + 1) cap9) = w3 at *
   have c1 := HV9.out.c1
   have hs3 : s + 1 <= w3.heap.size := HV9.out.ly.big
   obtain ⟨⟨hi0, hz0, hz1, hz2⟩, hi1, hy0, hy1, hy2⟩ := HI.out
   go_wp2_with (at_builtin; refine wpList_append_lies _ rfl _ _ 48 rfl (s + 1) 29 i1 (.slice none 0 0) 1 24 U48 hi1 hy0 hy1 hy2 rfl (by decide) _ _ _ rfl (World.ownsRow.alloc HV9.out.ly.own _) ⟨w3.heap.size, 0, none⟩ 1 1 [.slice (some ⟨rb, 0, none⟩) N N] rfl rfl ?c1 ?c2 (by decide) ?c3 ?c4 ?c5 _ rfl ?_)
   case c1 => exact cell_one_new _ _ _
   case c2 => intro x hx; simp at hx; subst hx; rfl
   case c3 => unfold maxLen; omega
   case c4 => omega
   case c5 => simp; omega
   intro g8 cap8 w8 hown8 hgrow8 hat8 _
   obtain ⟨q1, f1, hv8⟩ := (HV9.out.old' ((Old.refl _).alloc _)).bas HR9.out (HF9.out.old ((Old.refl _).alloc _)) (fun r _ => by rw [HRg.out]) hown8 hgrow8 (by simpa using hat8)
   have HL8 := hid hv8.y
   clear hv8 hown8 hgrow8 hat8 HV9 HF9 HR9 c1 hs3 HRg HOr Hrb hi0 hz0 hz1 hz2 hi1 hy0 hy1 hy2
   go_wp2_with fail
   go_roundw
   case rel => exact ⟨i + 1, zab i, by omega, by rw [show (i + 1) = k + 1 by have h := Hk.out; omega]; exact HL8⟩
   case measure => simp [intOf]; omega
  ·have he : n = i := by omega
   subst he
   have HL2 := hid HL
   clear HL hi
   go_upto_region 16 with fail
   go_loopw [17] (fun iv wx => ∃ i : Nat, iv = .int .i64 (i : Int) /\ i <= n /\ Hid (ClY W s N T R (n + i) wx)) (fun iv _ => n - (intOf iv).toNat)
   case atStart => exact ⟨0, rfl, by omega, HL2⟩
   case round =>
    obtain ⟨i, rfl, hi, HL⟩ := hrel
    by_cases hlt : i < n
    ·have hlt2 : i < n := hlt
     obtain ⟨k, hk0⟩ : ∃ k, k = n + i := ⟨_, rfl⟩
     have Hk := hid hk0
     rw [<- hk0] at HL
     have hk80 : k <= 80 := by omega
     clear hk0
     go_upto_region 19 with (go_at_call 85; refine (HRw.out _).mono ?_; rintro e w1 ⟨o1, rb, hrb, rfl, hf1⟩)
     obtain ⟨v, u, bk, hv⟩ := HL.out
     have HFr := hid (hv.fr hrb)
     have HV := hid hv
     have Hrb := hid hrb
     have HOr := hid HL.out.old
     have hNN : N = 7 * n + 3 := HNN.out
     obtain ⟨p, hp⟩ : ∃ p, p = 2 * n + i := ⟨_, rfl⟩
     obtain ⟨q, hq⟩ : ∃ q, q = 3 * n + i := ⟨_, rfl⟩
     obtain ⟨m1, hm1⟩ : ∃ m1, m1 = 2 * n := ⟨_, rfl⟩
     obtain ⟨m2, hm2⟩ : ∃ m2, m2 = 3 * n := ⟨_, rfl⟩
     have HM1 : Hid (Value.int .i64 (IntKind.i64.wrap (2 * (n : Int))) = .int .i64 (m1 : Int)) := vi8 _ m1 (by omega) (by omega)
     have HP : Hid (Value.int .i64 (IntKind.i64.wrap ((m1 : Int) + (i : Int))) = .int .i64 (p : Int)) := vi8 _ p (by omega) (by omega)
     have HM2 : Hid (Value.int .i64 (IntKind.i64.wrap (3 * (n : Int))) = .int .i64 (m2 : Int)) := vi8 _ m2 (by omega) (by omega)
     have HQ : Hid (Value.int .i64 (IntKind.i64.wrap ((m2 : Int) + (i : Int))) = .int .i64 (q : Int)) := vi8 _ q (by omega) (by omega)
     have hp8 : p < N := by omega
     have hq8 : q < N := by omega
     have hpq : p ≠ q := by omega
     have HTg : Hid (T k = B i) := by unfold Hid; rw [Hk.out]; exact HT2.out i hlt2
     have HRg : Hid (R k = row28 p (G) q H) := by unfold Hid; rw [Hk.out, hp, hq]; exact HR2.out i hlt2
     clear hq hNN hp hm1 hm2
     have HRo : Hid (Row1 wr rb N p w1) := Row1.of o1 hf1
     clear hv o1 hrb hf1 HL
     have HGr := hid fun wx (h : Row1 wr rb N p wx) => HG.out _ (HOr.out.trans h.1)
     have HTr := hid fun wx (h : Row1 wr rb N p wx) => HTk.out _ (HOr.out.trans h.1)
     refine zae 16 [.k (.slice (some ⟨rb, 0, none⟩) N N), .k (.int .i64 (n : Int)), .k (.int .i64 (m1 : Int)), .k (.int .i64 (i : Int)), .k (.int .i64 (p : Int)), .k (.slice (some ⟨rb, 0, none⟩) N N), .k (.int .i64 (n : Int)), .k (.int .i64 (m2 : Int)), .k (.int .i64 (i : Int)), .k (.int .i64 (q : Int)), .k (.pointer (some ⟨gb, 2, none⟩)), .k (.int .u64 G), .k (.pointer (some ⟨gb, 3, none⟩)), .k (.int .u64 H), .k (.pointer (some ⟨rb, p, none⟩)), zfI rb N p (G)] (Row1 wr rb N p) (by kernel_rfl) (by kernel_rfl) rfl (Row1.old _ _ HRo.out (Old.refl _).drew) ?st ?_
     case st =>
      refine .c stpz <| .c stpz <| .c (stvz HM1.out) <| .c stpz <| .c (stvz HP.out) <| .c stpz <| .c stpz <| .c (stvz HM2.out) <| .c stpz <| .c (stvz HQ.out) <| .c stpz <| .c (stfz 2 U22 HGr.out) <| .c stpz <| .c (stfz 3 U22 HGr.out) <| .c (sti0z (n := N) (c := N) hp8 U29) <| .c (stSz (p := ⟨rb, p, none⟩) (v := .int .u64 (G)) (fun _ => row_stS (j := 15) rfl rfl hp8 Hrb.out)) .n
     intro t wx hR hk
     simp only [fill, Ent.val, zfI, Ls0, Ls1, Ld1, Ld0, Ldn]
     have hl : Full wx rb N (fun r => if r = p then G else 1) := hk 15 (by omega)
     have q1 := hl.cell q hq8
     have f1 := hl.free q
     have HF : Hid (Full (wx.setCell ⟨rb, q, none⟩ (.int .u64 H)) rb N (row28 p (G) q H)) := zcB hl hpq
     have HV2 : Hid (ClV W s N T R k k v u bk (wx.setCell ⟨rb, q, none⟩ (.int .u64 H))) := HV.out.old' (hR.1.setCell (p := ⟨rb, q, none⟩) Hrb.out _)
     clear hl hk hR HV HGr HRo HTr
     go_upto_region 20 with fail
     clear q1 f1
     generalize wx.setCell ⟨rb, q, none⟩ (.int .u64 H) = w2 at *
     have HSc := hid fun wy (ho : Old w2 wy) => (HV2.out.old' ho).row
     have HG2 := hid fun wy (ho : Old w2 wy) => HG.out _ (HV2.out.ly.old.trans ho)
     have HT2 := hid fun wy (ho : Old w2 wy) => HTk.out _ (HV2.out.ly.old.trans ho)
     have HX2 := hid fun wy (ho : Old w2 wy) => HBc.out _ _ hlt2 (HV2.out.ly.old.trans ho)
     refine zae 8 [.k (.pointer (some ⟨s, 0, none⟩)), .k (v), .k (.pointer (some ⟨gb + 1, 2, none⟩)), .k (.slice (some ⟨bb, ob, none⟩) n cb), .k (.int .i64 (i : Int)), .k (.pointer (some ⟨bb, ob + i, none⟩)), .k (.int .u64 (B i)), blkE 1 #[.int .u64 (B i)] 22] (Old w2) (by kernel_rfl) (by kernel_rfl) rfl ((Old.refl _).drew) ?st ?_
     case st =>
      refine .c stpz <| .c (stfz 0 U29 HSc.out) <| .c stpz <| .c (stfz 2 U29 HT2.out) <| .c stpz <| .c (stiz (n := n) (c := cb) hlt2 U29) <| .c (stlz U22 HX2.out) <| .c (stmz (ob := fun t => .cells #[.int .u64 (B i)] 22) (v := fun s => .slice (some ⟨s, 0, none⟩) 1 1) old_R fun t wx hR hd => ⟨_, rfl, heap_alloc_last _ _⟩) .n
     intro t wz hR2 hk2
     simp only [fill, Ent.val, blkE, Ls0, Ls1, Ld1, Ld0, Ldn]
     obtain ⟨bs, ebs, hbs⟩ : ∃ b, t 7 = .slice (some ⟨b, 0, none⟩) 1 1 /\ wz.heap[b]? = some (.cells #[.int .u64 (B i)] 22 (0, 0)) := hk2 7 (by omega)
     rw [ebs]
     have HVz := hid (HV2.out.old' hR2)
     have HFz := hid (HF.out.old hR2)
     have HSz := hid HVz.out.ly.big
     clear hk2 hR2 HSc HG2 HT2 HX2 HV2 HF
     obtain ⟨⟨hi0, hz0, hz1, hz2⟩, hi1, hy0, hy1, hy2⟩ := HI.out
     go_wp2_with (at_builtin; refine wpList_append_lies _ rfl _ _ 29 rfl (s + 1) 22 i0 (.int .u64 0) 1 8 U29 hi0 hz0 hz1 hz2 rfl (by decide) _ _ _ rfl HVz.out.ly.nums ⟨bs, 0, none⟩ 1 1 [.int .u64 (B i)] rfl rfl ?c1 ?c2 (by decide) ?c3 ?c4 HSz.out _ rfl ?_)
     case c1 => exact za5 hbs
     case c2 => intro u hu; simp at hu; rcases hu with rfl; rfl
     case c3 => unfold maxLen; omega
     case c4 => omega
     intro g9 cap9 w9 hown9 hgrow9 hat9 _
     have hn9 : Nums w9 (s + 1) (.slice (some ⟨g9, 0, none⟩) (k + 1) cap9) (k + 1) T := Nums.app hown9 HTg.out
     obtain ⟨q0, f0, hv9⟩ := HVz.out.tgtn (m := 1) hn9 hgrow9 hat9
     obtain ⟨hr9, hl9⟩ := HFr.out.tgt (m := k + 1) (cap := cap9) hgrow9 hat9 HFz.out
     have HV9 := hid hv9
     have HF9 : Hid (Full (w9.setCell ⟨s, 0, none⟩ (.slice (some ⟨g9, 0, none⟩) (k + 1) cap9)) rb N (row28 p (G) q H)) := hl9 _ _
     have HR9 := hid hr9
     clear hv9 hr9 hl9 hn9 hown9 hgrow9 hat9 HVz HFz HFr hbs ebs HSz HTg hi0 hz0 hz1 hz2 hi1 hy0 hy1 hy2
     go_upto_region 21 with fail
     clear q0 f0
     generalize w9.setCell ⟨s, 0, none⟩ (.slice (some ⟨g9, 0, none⟩) (k + 1) cap9) = w3 at *
     have c1 := HV9.out.c1
     have hs3 : s + 1 <= w3.heap.size := HV9.out.ly.big
     obtain ⟨⟨hi0, hz0, hz1, hz2⟩, hi1, hy0, hy1, hy2⟩ := HI.out
     go_wp2_with (at_builtin; refine wpList_append_lies _ rfl _ _ 48 rfl (s + 1) 29 i1 (.slice none 0 0) 1 24 U48 hi1 hy0 hy1 hy2 rfl (by decide) _ _ _ rfl (World.ownsRow.alloc HV9.out.ly.own _) ⟨w3.heap.size, 0, none⟩ 1 1 [.slice (some ⟨rb, 0, none⟩) N N] rfl rfl ?c1 ?c2 (by decide) ?c3 ?c4 ?c5 _ rfl ?_)
     case c1 => exact cell_one_new _ _ _
     case c2 => intro x hx; simp at hx; subst hx; rfl
     case c3 => unfold maxLen; omega
     case c4 => omega
     case c5 => simp; omega
     intro g8 cap8 w8 hown8 hgrow8 hat8 _
     obtain ⟨q1, f1, hv8⟩ := (HV9.out.old' ((Old.refl _).alloc _)).bas HR9.out (HF9.out.old ((Old.refl _).alloc _)) (fun r _ => by rw [HRg.out]) hown8 hgrow8 (by simpa using hat8)
     have HL8 := hid hv8.y
     clear hv8 hown8 hgrow8 hat8 HV9 HF9 HR9 c1 hs3 HRg HOr Hrb hi0 hz0 hz1 hz2 hi1 hy0 hy1 hy2
     go_wp2_with fail
     go_roundw
     case rel => exact ⟨i + 1, zab i, by omega, by rw [show n + (i + 1) = k + 1 by have h := Hk.out; omega]; exact HL8⟩
     case measure => simp [intOf]; omega
    ·have he : n = i := by omega
     subst he
     have HL2 := hid HL
     clear HL hi
     go_upto_region 23 with fail
     go_loopw [19] (fun iv wx => ∃ i : Nat, iv = .int .i64 (i : Int) /\ i <= n /\ Hid (ClY W s N T R (2 * n + i) wx)) (fun iv _ => n - (intOf iv).toNat)
     case atStart => exact ⟨0, rfl, by omega, by have h := HL2.out; rw [show n + n = 2 * n + 0 by omega] at h; exact h⟩
     case round =>
      obtain ⟨i, rfl, hi, HL⟩ := hrel
      by_cases hlt : i < n
      ·have hlt2 : i < n := hlt
       obtain ⟨k, hk0⟩ : ∃ k, k = 2 * n + i := ⟨_, rfl⟩
       have Hk := hid hk0
       rw [<- hk0] at HL
       have hk80 : k <= 80 := by omega
       clear hk0
       go_upto_region 26 with (go_at_call 85; refine (HRw.out _).mono ?_; rintro e w1 ⟨o1, rb, hrb, rfl, hf1⟩)
       obtain ⟨v, u, bk, hv⟩ := HL.out
       have HFr := hid (hv.fr hrb)
       have HV := hid hv
       have Hrb := hid hrb
       have HOr := hid HL.out.old
       have hNN : N = 7 * n + 3 := HNN.out
       obtain ⟨p, hp⟩ : ∃ p, p = 4 * n + i := ⟨_, rfl⟩
       obtain ⟨q, hq⟩ : ∃ q, q = 5 * n + i := ⟨_, rfl⟩
       obtain ⟨m1, hm1⟩ : ∃ m1, m1 = 4 * n := ⟨_, rfl⟩
       obtain ⟨m2, hm2⟩ : ∃ m2, m2 = 5 * n := ⟨_, rfl⟩
       have HM1 : Hid (Value.int .i64 (IntKind.i64.wrap (4 * (n : Int))) = .int .i64 (m1 : Int)) := vi8 _ m1 (by omega) (by omega)
       have HP : Hid (Value.int .i64 (IntKind.i64.wrap ((m1 : Int) + (i : Int))) = .int .i64 (p : Int)) := vi8 _ p (by omega) (by omega)
       have HM2 : Hid (Value.int .i64 (IntKind.i64.wrap (5 * (n : Int))) = .int .i64 (m2 : Int)) := vi8 _ m2 (by omega) (by omega)
       have HQ : Hid (Value.int .i64 (IntKind.i64.wrap ((m2 : Int) + (i : Int))) = .int .i64 (q : Int)) := vi8 _ q (by omega) (by omega)
       have hp8 : p < N := by omega
       have hq8 : q < N := by omega
       have hpq : p ≠ q := by omega
       have HTg : Hid (T k = bigI P Q G (A i) (B i) Y Z) := by unfold Hid; rw [Hk.out]; exact HT3.out i hlt2
       have HRg : Hid (R k = row28 p (G) q H) := by unfold Hid; rw [Hk.out, hp, hq]; exact HR3.out i hlt2
       clear hq hNN hp hm1 hm2
       have HRo : Hid (Row1 wr rb N p w1) := Row1.of o1 hf1
       clear hv o1 hrb hf1 HL
       have HGr := hid fun wx (h : Row1 wr rb N p wx) => HG.out _ (HOr.out.trans h.1)
       have HTr := hid fun wx (h : Row1 wr rb N p wx) => HTk.out _ (HOr.out.trans h.1)
       refine zae 16 [.k (.slice (some ⟨rb, 0, none⟩) N N), .k (.int .i64 (n : Int)), .k (.int .i64 (m1 : Int)), .k (.int .i64 (i : Int)), .k (.int .i64 (p : Int)), .k (.slice (some ⟨rb, 0, none⟩) N N), .k (.int .i64 (n : Int)), .k (.int .i64 (m2 : Int)), .k (.int .i64 (i : Int)), .k (.int .i64 (q : Int)), .k (.pointer (some ⟨gb, 2, none⟩)), .k (.int .u64 G), .k (.pointer (some ⟨gb, 3, none⟩)), .k (.int .u64 H), .k (.pointer (some ⟨rb, p, none⟩)), zfI rb N p (G)] (Row1 wr rb N p) (by kernel_rfl) (by kernel_rfl) rfl (Row1.old _ _ HRo.out (Old.refl _).drew) ?st ?_
       case st =>
        refine .c stpz <| .c stpz <| .c (stvz HM1.out) <| .c stpz <| .c (stvz HP.out) <| .c stpz <| .c stpz <| .c (stvz HM2.out) <| .c stpz <| .c (stvz HQ.out) <| .c stpz <| .c (stfz 2 U22 HGr.out) <| .c stpz <| .c (stfz 3 U22 HGr.out) <| .c (sti0z (n := N) (c := N) hp8 U29) <| .c (stSz (p := ⟨rb, p, none⟩) (v := .int .u64 (G)) (fun _ => row_stS (j := 15) rfl rfl hp8 Hrb.out)) .n
       intro t wx hR hk
       simp only [fill, Ent.val, zfI, Ls0, Ls1, Ld1, Ld0, Ldn]
       have hl : Full wx rb N (fun r => if r = p then G else 1) := hk 15 (by omega)
       have q1 := hl.cell q hq8
       have f1 := hl.free q
       have HF : Hid (Full (wx.setCell ⟨rb, q, none⟩ (.int .u64 H)) rb N (row28 p (G) q H)) := zcB hl hpq
       have HV2 : Hid (ClV W s N T R k k v u bk (wx.setCell ⟨rb, q, none⟩ (.int .u64 H))) := HV.out.old' (hR.1.setCell (p := ⟨rb, q, none⟩) Hrb.out _)
       clear hl hk hR HV HGr HRo HTr
       go_upto_region 27 with fail
       clear q1 f1
       generalize wx.setCell ⟨rb, q, none⟩ (.int .u64 H) = w2 at *
       have HSc := hid fun wy (ho : Old w2 wy) => (HV2.out.old' ho).row
       have HG2 := hid fun wy (ho : Old w2 wy) => HG.out _ (HV2.out.ly.old.trans ho)
       have HT2 := hid fun wy (ho : Old w2 wy) => HTk.out _ (HV2.out.ly.old.trans ho)
       have HX2 := hid fun wy (ho : Old w2 wy) => HBg.out wy i hlt2 (HW0.out.trans (HV2.out.ly.old.trans ho))
       refine zae 7 [.k (.pointer (some ⟨s, 0, none⟩)), .k (v), .k (gv P Q G H a m cap), .k (tk (some ⟨ba, oa, none⟩) n ca X (some ⟨bb, ob, none⟩) n cb Y Z (some ⟨bp, op, none⟩) n cp), .k (.int .i64 (i : Int)), .k (.int .u64 (bigI P Q G (A i) (B i) Y Z)), blkE 1 #[.int .u64 (bigI P Q G (A i) (B i) Y Z)] 22] (Old w2) (by kernel_rfl) (by kernel_rfl) rfl ((Old.refl _).drew) ?st ?_
       case st =>
        refine .c stpz <| .c (stfz 0 U29 HSc.out) <| .c (stsz U25 HG2.out) <| .c (stsz U41 HT2.out) <| .c stpz <| .c (stKz old_R func67 (fun wy hy => HX2.out wy hy)) <| .c (stmz (ob := fun t => .cells #[.int .u64 (bigI P Q G (A i) (B i) Y Z)] 22) (v := fun s => .slice (some ⟨s, 0, none⟩) 1 1) old_R fun t wx hR hd => ⟨_, rfl, heap_alloc_last _ _⟩) .n
       intro t wz hR2 hk2
       simp only [fill, Ent.val, blkE, Ls0, Ls1, Ld1, Ld0, Ldn]
       obtain ⟨bs, ebs, hbs⟩ : ∃ b, t 6 = .slice (some ⟨b, 0, none⟩) 1 1 /\ wz.heap[b]? = some (.cells #[.int .u64 (bigI P Q G (A i) (B i) Y Z)] 22 (0, 0)) := hk2 6 (by omega)
       rw [ebs]
       have HVz := hid (HV2.out.old' hR2)
       have HFz := hid (HF.out.old hR2)
       have HSz := hid HVz.out.ly.big
       clear hk2 hR2 HSc HG2 HT2 HX2 HV2 HF
       obtain ⟨⟨hi0, hz0, hz1, hz2⟩, hi1, hy0, hy1, hy2⟩ := HI.out
       go_wp2_with (at_builtin; refine wpList_append_lies _ rfl _ _ 29 rfl (s + 1) 22 i0 (.int .u64 0) 1 8 U29 hi0 hz0 hz1 hz2 rfl (by decide) _ _ _ rfl HVz.out.ly.nums ⟨bs, 0, none⟩ 1 1 [.int .u64 (bigI P Q G (A i) (B i) Y Z)] rfl rfl ?c1 ?c2 (by decide) ?c3 ?c4 HSz.out _ rfl ?_)
       case c1 => exact za5 hbs
       case c2 => intro u hu; simp at hu; rcases hu with rfl; rfl
       case c3 => unfold maxLen; omega
       case c4 => omega
       intro g9 cap9 w9 hown9 hgrow9 hat9 _
       have hn9 : Nums w9 (s + 1) (.slice (some ⟨g9, 0, none⟩) (k + 1) cap9) (k + 1) T := Nums.app hown9 HTg.out
       obtain ⟨q0, f0, hv9⟩ := HVz.out.tgtn (m := 1) hn9 hgrow9 hat9
       obtain ⟨hr9, hl9⟩ := HFr.out.tgt (m := k + 1) (cap := cap9) hgrow9 hat9 HFz.out
       have HV9 := hid hv9
       have HF9 : Hid (Full (w9.setCell ⟨s, 0, none⟩ (.slice (some ⟨g9, 0, none⟩) (k + 1) cap9)) rb N (row28 p (G) q H)) := hl9 _ _
       have HR9 := hid hr9
       clear hv9 hr9 hl9 hn9 hown9 hgrow9 hat9 HVz HFz HFr hbs ebs HSz HTg hi0 hz0 hz1 hz2 hi1 hy0 hy1 hy2
       go_upto_region 28 with fail
       clear q0 f0
       generalize w9.setCell ⟨s, 0, none⟩ (.slice (some ⟨g9, 0, none⟩) (k + 1) cap9) = w3 at *
       have c1 := HV9.out.c1
       have hs3 : s + 1 <= w3.heap.size := HV9.out.ly.big
       obtain ⟨⟨hi0, hz0, hz1, hz2⟩, hi1, hy0, hy1, hy2⟩ := HI.out
       go_wp2_with (at_builtin; refine wpList_append_lies _ rfl _ _ 48 rfl (s + 1) 29 i1 (.slice none 0 0) 1 24 U48 hi1 hy0 hy1 hy2 rfl (by decide) _ _ _ rfl (World.ownsRow.alloc HV9.out.ly.own _) ⟨w3.heap.size, 0, none⟩ 1 1 [.slice (some ⟨rb, 0, none⟩) N N] rfl rfl ?c1 ?c2 (by decide) ?c3 ?c4 ?c5 _ rfl ?_)
       case c1 => exact cell_one_new _ _ _
       case c2 => intro x hx; simp at hx; subst hx; rfl
       case c3 => unfold maxLen; omega
       case c4 => omega
       case c5 => simp; omega
       intro g8 cap8 w8 hown8 hgrow8 hat8 _
       obtain ⟨q1, f1, hv8⟩ := (HV9.out.old' ((Old.refl _).alloc _)).bas HR9.out (HF9.out.old ((Old.refl _).alloc _)) (fun r _ => by rw [HRg.out]) hown8 hgrow8 (by simpa using hat8)
       have HL8 := hid hv8.y
       clear hv8 hown8 hgrow8 hat8 HV9 HF9 HR9 c1 hs3 HRg HOr Hrb hi0 hz0 hz1 hz2 hi1 hy0 hy1 hy2
       go_wp2_with fail
       go_roundw
       case rel => exact ⟨i + 1, zab i, by omega, by rw [show 2 * n + (i + 1) = k + 1 by have h := Hk.out; omega]; exact HL8⟩
       case measure => simp [intOf]; omega
      ·have he : n = i := by omega
       subst he
       have HL2 := hid HL
       clear HL hi
       go_upto_region 30 with fail
       go_loopw [21] (fun iv wx => ∃ j : Nat, iv = .int .i64 (j : Int) /\ (1 <= j /\ j <= n) /\ Hid (ClY W s N T R (3 * n + (j - 1)) wx)) (fun iv _ => n - (intOf iv).toNat)
       case atStart => exact ⟨1, rfl, by omega, by have h := HL2.out; rw [show 2 * n + n = 3 * n + (1 - 1) by omega] at h; exact h⟩
       case round =>
        obtain ⟨j, rfl, hi, HL⟩ := hrel
        by_cases hlt : j < n
        ·have hlt2 : j < n := hlt
         obtain ⟨k, hk0⟩ : ∃ k, k = 3 * n + (j - 1) := ⟨_, rfl⟩
         have Hk := hid hk0
         rw [<- hk0] at HL
         have hk80 : k <= 80 := by omega
         clear hk0
         obtain ⟨i, hji0⟩ : ∃ i, j = i + 1 := ⟨j - 1, by omega⟩
         have Hji := hid hji0
         clear hji0
         go_upto_region 33 with (go_at_call 85; refine (HRw.out _).mono ?_; rintro e w1 ⟨o1, rb, hrb, rfl, hf1⟩)
         obtain ⟨v, u, bk, hv⟩ := HL.out
         have HFr := hid (hv.fr hrb)
         have HV := hid hv
         have Hrb := hid hrb
         have HOr := hid HL.out.old
         have hNN : N = 7 * n + 3 := HNN.out
         obtain ⟨p, hp⟩ : ∃ p, p = 4 * n + j := ⟨_, rfl⟩
         obtain ⟨q, hq⟩ : ∃ q, q = 6 * n + i := ⟨_, rfl⟩
         have hji := Hji.out
         obtain ⟨m1, hm1⟩ : ∃ m1, m1 = 4 * n := ⟨_, rfl⟩
         obtain ⟨m2, hm2⟩ : ∃ m2, m2 = 6 * n := ⟨_, rfl⟩
         obtain ⟨q0, hq0⟩ : ∃ q0, q0 = m2 + j := ⟨_, rfl⟩
         have HM1 : Hid (Value.int .i64 (IntKind.i64.wrap (4 * (n : Int))) = .int .i64 (m1 : Int)) := vi8 _ m1 (by omega) (by omega)
         have HP : Hid (Value.int .i64 (IntKind.i64.wrap ((m1 : Int) + (j : Int))) = .int .i64 (p : Int)) := vi8 _ p (by omega) (by omega)
         have HM2 : Hid (Value.int .i64 (IntKind.i64.wrap (6 * (n : Int))) = .int .i64 (m2 : Int)) := vi8 _ m2 (by omega) (by omega)
         have HQ0 : Hid (Value.int .i64 (IntKind.i64.wrap ((m2 : Int) + (j : Int))) = .int .i64 (q0 : Int)) := vi8 _ q0 (by omega) (by omega)
         have HQ : Hid (Value.int .i64 (IntKind.i64.wrap ((q0 : Int) - 1)) = .int .i64 (q : Int)) := vi8 _ q (by omega) (by omega)
         have HI1 : Hid (Value.int .i64 (IntKind.i64.wrap ((j : Int) - 1)) = .int .i64 (i : Int)) := vi8 _ i (by omega) (by omega)
         have hin : i < n := by omega
         have hp8 : p < N := by omega
         have hq8 : q < N := by omega
         have hpq : p ≠ q := by omega
         have HTg : Hid (T k = Pp j) := by unfold Hid; rw [Hk.out]; exact by rw [show 3 * n + (j - 1) = 3 * n + i by omega, hji]; exact HT4.out i (by omega)
         have HRg : Hid (R k = row28 p (Pp i) q H) := by unfold Hid; rw [Hk.out, hp, hq]; exact by rw [show 3 * n + (j - 1) = 3 * n + i by omega, hji]; exact HR4.out i (by omega)
         clear hq hNN hp hm1 hm2 hq0 hji
         have HRo : Hid (Row1 wr rb N p w1) := Row1.of o1 hf1
         clear hv o1 hrb hf1 HL
         have HGr := hid fun wx (h : Row1 wr rb N p wx) => HG.out _ (HOr.out.trans h.1)
         have HTr := hid fun wx (h : Row1 wr rb N p wx) => HTk.out _ (HOr.out.trans h.1)
         have HPr := hid fun wx (h : Row1 wr rb N p wx) => HPc.out _ i (by omega) (HOr.out.trans h.1)
         refine zae 21 [.k (.slice (some ⟨rb, 0, none⟩) N N), .k (.int .i64 (n : Int)), .k (.int .i64 (m1 : Int)), .k (.int .i64 (j : Int)), .k (.int .i64 (p : Int)), .k (.slice (some ⟨rb, 0, none⟩) N N), .k (.int .i64 (n : Int)), .k (.int .i64 (m2 : Int)), .k (.int .i64 (j : Int)), .k (.int .i64 (q0 : Int)), .k (.int .i64 (q : Int)), .k (.pointer (some ⟨gb + 1, 5, none⟩)), .k (.slice (some ⟨bp, op, none⟩) n cp), .k (.int .i64 (j : Int)), .k (.int .i64 (i : Int)), .k (.pointer (some ⟨bp, op + i, none⟩)), .k (.int .u64 (Pp i)), .k (.pointer (some ⟨gb, 3, none⟩)), .k (.int .u64 H), .k (.pointer (some ⟨rb, p, none⟩)), zfI rb N p (Pp i)] (Row1 wr rb N p) (by kernel_rfl) (by kernel_rfl) rfl (Row1.old _ _ HRo.out (Old.refl _).drew) ?st ?_
         case st =>
          refine .c stpz <| .c stpz <| .c (stvz HM1.out) <| .c stpz <| .c (stvz HP.out) <| .c stpz <| .c stpz <| .c (stvz HM2.out) <| .c stpz <| .c (stvz HQ0.out) <| .c (stvz HQ.out) <| .c stpz <| .c (stfz 5 U29 HTr.out) <| .c stpz <| .c (stvz HI1.out) <| .c (stiz (n := n) (c := cp) (by omega) U29) <| .c (stlz U22 HPr.out) <| .c stpz <| .c (stfz 3 U22 HGr.out) <| .c (sti0z (n := N) (c := N) hp8 U29) <| .c (stSz (p := ⟨rb, p, none⟩) (v := .int .u64 (Pp i)) (fun _ => row_stS (j := 20) rfl rfl hp8 Hrb.out)) .n
         intro t wx hR hk
         simp only [fill, Ent.val, zfI, Ls0, Ls1, Ld1, Ld0, Ldn]
         have hl : Full wx rb N (fun r => if r = p then Pp i else 1) := hk 20 (by omega)
         have q1 := hl.cell q hq8
         have f1 := hl.free q
         have HF : Hid (Full (wx.setCell ⟨rb, q, none⟩ (.int .u64 H)) rb N (row28 p (Pp i) q H)) := zcB hl hpq
         have HV2 : Hid (ClV W s N T R k k v u bk (wx.setCell ⟨rb, q, none⟩ (.int .u64 H))) := HV.out.old' (hR.1.setCell (p := ⟨rb, q, none⟩) Hrb.out _)
         clear hl hk hR HV HGr HRo HTr HPr
         go_upto_region 34 with fail
         clear q1 f1
         generalize wx.setCell ⟨rb, q, none⟩ (.int .u64 H) = w2 at *
         have HSc := hid fun wy (ho : Old w2 wy) => (HV2.out.old' ho).row
         have HG2 := hid fun wy (ho : Old w2 wy) => HG.out _ (HV2.out.ly.old.trans ho)
         have HT2 := hid fun wy (ho : Old w2 wy) => HTk.out _ (HV2.out.ly.old.trans ho)
         have HX2 := hid fun wy (ho : Old w2 wy) => HPc.out _ _ hlt2 (HV2.out.ly.old.trans ho)
         refine zae 8 [.k (.pointer (some ⟨s, 0, none⟩)), .k (v), .k (.pointer (some ⟨gb + 1, 5, none⟩)), .k (.slice (some ⟨bp, op, none⟩) n cp), .k (.int .i64 (j : Int)), .k (.pointer (some ⟨bp, op + j, none⟩)), .k (.int .u64 (Pp j)), blkE 1 #[.int .u64 (Pp j)] 22] (Old w2) (by kernel_rfl) (by kernel_rfl) rfl ((Old.refl _).drew) ?st ?_
         case st =>
          refine .c stpz <| .c (stfz 0 U29 HSc.out) <| .c stpz <| .c (stfz 5 U29 HT2.out) <| .c stpz <| .c (stiz (n := n) (c := cp) hlt2 U29) <| .c (stlz U22 HX2.out) <| .c (stmz (ob := fun t => .cells #[.int .u64 (Pp j)] 22) (v := fun s => .slice (some ⟨s, 0, none⟩) 1 1) old_R fun t wx hR hd => ⟨_, rfl, heap_alloc_last _ _⟩) .n
         intro t wz hR2 hk2
         simp only [fill, Ent.val, blkE, Ls0, Ls1, Ld1, Ld0, Ldn]
         obtain ⟨bs, ebs, hbs⟩ : ∃ b, t 7 = .slice (some ⟨b, 0, none⟩) 1 1 /\ wz.heap[b]? = some (.cells #[.int .u64 (Pp j)] 22 (0, 0)) := hk2 7 (by omega)
         rw [ebs]
         have HVz := hid (HV2.out.old' hR2)
         have HFz := hid (HF.out.old hR2)
         have HSz := hid HVz.out.ly.big
         clear hk2 hR2 HSc HG2 HT2 HX2 HV2 HF
         obtain ⟨⟨hi0, hz0, hz1, hz2⟩, hi1, hy0, hy1, hy2⟩ := HI.out
         go_wp2_with (at_builtin; refine wpList_append_lies _ rfl _ _ 29 rfl (s + 1) 22 i0 (.int .u64 0) 1 8 U29 hi0 hz0 hz1 hz2 rfl (by decide) _ _ _ rfl HVz.out.ly.nums ⟨bs, 0, none⟩ 1 1 [.int .u64 (Pp j)] rfl rfl ?c1 ?c2 (by decide) ?c3 ?c4 HSz.out _ rfl ?_)
         case c1 => exact za5 hbs
         case c2 => intro u hu; simp at hu; rcases hu with rfl; rfl
         case c3 => unfold maxLen; omega
         case c4 => omega
         intro g9 cap9 w9 hown9 hgrow9 hat9 _
         have hn9 : Nums w9 (s + 1) (.slice (some ⟨g9, 0, none⟩) (k + 1) cap9) (k + 1) T := Nums.app hown9 HTg.out
         obtain ⟨q0, f0, hv9⟩ := HVz.out.tgtn (m := 1) hn9 hgrow9 hat9
         obtain ⟨hr9, hl9⟩ := HFr.out.tgt (m := k + 1) (cap := cap9) hgrow9 hat9 HFz.out
         have HV9 := hid hv9
         have HF9 : Hid (Full (w9.setCell ⟨s, 0, none⟩ (.slice (some ⟨g9, 0, none⟩) (k + 1) cap9)) rb N (row28 p (Pp i) q H)) := hl9 _ _
         have HR9 := hid hr9
         clear hv9 hr9 hl9 hn9 hown9 hgrow9 hat9 HVz HFz HFr hbs ebs HSz HTg hi0 hz0 hz1 hz2 hi1 hy0 hy1 hy2
         go_upto_region 35 with fail
         clear q0 f0
         generalize w9.setCell ⟨s, 0, none⟩ (.slice (some ⟨g9, 0, none⟩) (k + 1) cap9) = w3 at *
         have c1 := HV9.out.c1
         have hs3 : s + 1 <= w3.heap.size := HV9.out.ly.big
         obtain ⟨⟨hi0, hz0, hz1, hz2⟩, hi1, hy0, hy1, hy2⟩ := HI.out
         go_wp2_with (at_builtin; refine wpList_append_lies _ rfl _ _ 48 rfl (s + 1) 29 i1 (.slice none 0 0) 1 24 U48 hi1 hy0 hy1 hy2 rfl (by decide) _ _ _ rfl (World.ownsRow.alloc HV9.out.ly.own _) ⟨w3.heap.size, 0, none⟩ 1 1 [.slice (some ⟨rb, 0, none⟩) N N] rfl rfl ?c1 ?c2 (by decide) ?c3 ?c4 ?c5 _ rfl ?_)
         case c1 => exact cell_one_new _ _ _
         case c2 => intro x hx; simp at hx; subst hx; rfl
         case c3 => unfold maxLen; omega
         case c4 => omega
         case c5 => simp; omega
         intro g8 cap8 w8 hown8 hgrow8 hat8 _
         obtain ⟨q1, f1, hv8⟩ := (HV9.out.old' ((Old.refl _).alloc _)).bas HR9.out (HF9.out.old ((Old.refl _).alloc _)) (fun r _ => by rw [HRg.out]) hown8 hgrow8 (by simpa using hat8)
         have HL8 := hid hv8.y
         clear hv8 hown8 hgrow8 hat8 HV9 HF9 HR9 c1 hs3 HRg HOr Hrb hi0 hz0 hz1 hz2 hi1 hy0 hy1 hy2
         go_wp2_with fail
         go_roundw
         case rel => exact ⟨j + 1, zab j, by omega, by rw [show 3 * n + (j + 1 - 1) = k + 1 by have h := Hk.out; omega]; exact HL8⟩
         case measure => simp [intOf]; omega
        ·have he : n = j := by omega
         subst he
         have HL2 := hid HL
         clear HL hi
         obtain ⟨k, hk0⟩ : ∃ k, k = 3 * n + (n - 1) := ⟨_, rfl⟩
         have Hk := hid hk0
         rw [<- hk0] at HL2
         have HL := hid HL2
         have hk80 : k <= 80 := by omega
         clear hk0 HL2
         go_upto_region 37 with (go_at_call 85; refine (HRw.out _).mono ?_; rintro e w1 ⟨o1, rb, hrb, rfl, hf1⟩)
         obtain ⟨v, u, bk, hv⟩ := HL.out
         have HFr := hid (hv.fr hrb)
         have HV := hid hv
         have Hrb := hid hrb
         have HOr := hid HL.out.old
         have hNN : N = 7 * n + 3 := HNN.out
         obtain ⟨p, hp⟩ : ∃ p, p = 7 * n - 1 := ⟨_, rfl⟩
         obtain ⟨i, hi1⟩ : ∃ i, i = n - 1 := ⟨_, rfl⟩
         have hin : i < n := by omega
         have hp8 : p < N := by omega
         have HTg : Hid (T k = lastI P Q G X Y Z n (Pp i)) := by unfold Hid; rw [Hk.out, hi1]; exact HT5.out
         have HRg : Hid (R k = row18 p H) := by unfold Hid; rw [Hk.out, hp]; exact HR5.out
         have e1 : IntKind.i64.wrap (7 * (n : Int)) = 7 * (n : Int) := by rw [IntKind.wrap_i64]; omega
         have e2 : IntKind.i64.wrap (7 * (n : Int) - 1) = (p : Int) := wi8 _ p (by omega) (by omega)
         have HI1 : Hid (Value.int .i64 (IntKind.i64.wrap ((n : Int) - 1)) = .int .i64 (i : Int)) := vi8 _ i (by omega) (by omega)
         clear hp hNN hi1
         have HV1 := hid (HV.out.old' o1)
         have q1 := hf1.cell p hp8
         have f1 := hf1.free p
         have HF : Hid (Full (w1.setCell ⟨rb, p, none⟩ (.int .u64 H)) rb N (row18 p H)) := row18_of hf1
         have HV2 : Hid (ClV W s N T R k k v u bk (w1.setCell ⟨rb, p, none⟩ (.int .u64 H))) := HV.out.old' (o1.setCell (p := ⟨rb, p, none⟩) Hrb.out _)
         obtain ⟨g0, g1, g2, g3, g4⟩ := HGc.out _ HV1.out.ly.old
         clear hv o1 hrb hf1 HL HV HV1
         go_upto_region 38 with fail
         clear hp8 q1 f1 g0 g1 g2 g3 g4 e1 e2
         generalize w1.setCell ⟨rb, p, none⟩ (.int .u64 H) = w2 at *
         have HSc := hid fun wy (ho : Old w2 wy) => (HV2.out.old' ho).row
         have HG2 := hid fun wy (ho : Old w2 wy) => HG.out _ (HV2.out.ly.old.trans ho)
         have HT2 := hid fun wy (ho : Old w2 wy) => HTk.out _ (HV2.out.ly.old.trans ho)
         have HX2 := hid fun wy (ho : Old w2 wy) => HPc.out _ _ hin (HV2.out.ly.old.trans ho)
         have HX3 : Hid (∀ wy, Calls prog 68 #[gv P Q G H a m cap, .int .u64 G, .int .u64 (prodI Q (kF Q X Y Z) n)] wy (Ret wy (.int .u64 (expI P Q G (prodI Q (kF Q X Y Z) n))))) := fun wy => zfn P Q G H a m cap G _ H4.out ⟨H4.out.g0, H4.out.g1⟩ (zaL _ _ _) wy
         have HX4 : Hid (∀ wy, Calls prog 86 #[gv P Q G H a m cap, .int .u64 (Pp i), .int .u64 (expI P Q G (prodI Q (kF Q X Y Z) n))] wy (Ret wy (.int .u64 (lastI P Q G X Y Z n (Pp i))))) := fun wy => rover_any P Q G H a m cap _ _ wy (HPu.out i hin) (zaz _ _ _ _)
         refine zae 24 [.k (.pointer (some ⟨s, 0, none⟩)), .k (v), .k (gv P Q G H a m cap), .k (.pointer (some ⟨gb + 1, 5, none⟩)), .k (.slice (some ⟨bp, op, none⟩) n cp), .k (.int .i64 (n : Int)), .k (.int .i64 (i : Int)), .k (.pointer (some ⟨bp, op + i, none⟩)), .k (.int .u64 (Pp i)), .k (gv P Q G H a m cap), .k (.pointer (some ⟨gb, 2, none⟩)), .k (.int .u64 G), .k (gv P Q G H a m cap), .k (.int .i64 (n : Int)), .k (.pointer (some ⟨gb + 1, 1, none⟩)), .k (.int .u64 X), .k (.pointer (some ⟨gb + 1, 3, none⟩)), .k (.int .u64 Y), .k (.pointer (some ⟨gb + 1, 4, none⟩)), .k (.int .u64 Z), .k (.int .u64 (prodI Q (kF Q X Y Z) n)), .k (.int .u64 (expI P Q G (prodI Q (kF Q X Y Z) n))), .k (.int .u64 (lastI P Q G X Y Z n (Pp i))), blkE 1 #[.int .u64 (lastI P Q G X Y Z n (Pp i))] 22] (Old w2) (by kernel_rfl) (by kernel_rfl) rfl ((Old.refl _).drew) ?st ?_
         case st =>
          refine .c stpz <| .c (stfz 0 U29 HSc.out) <| .c (stsz U25 HG2.out) <| .c stpz <| .c (stfz 5 U29 HT2.out) <| .c stpz <| .c (stvz HI1.out) <| .c (stiz (n := n) (c := cp) hin U29) <| .c (stlz U22 HX2.out) <| .c (stsz U25 HG2.out) <| .c stpz <| .c (stfz 2 U22 HG2.out) <| .c (stsz U25 HG2.out) <| .c stpz <| .c stpz <| .c (stfz 1 U22 HT2.out) <| .c stpz <| .c (stfz 3 U22 HT2.out) <| .c stpz <| .c (stfz 4 U22 HT2.out) <| .c (stKz old_R func87 (fun wy _ => HPr8.out wy)) <| .c (stKz old_R func68 (fun wy _ => HX3.out wy)) <| .c (stKz old_R func86 (fun wy _ => HX4.out wy)) <| .c (stmz (ob := fun t => .cells #[.int .u64 (lastI P Q G X Y Z n (Pp i))] 22) (v := fun s => .slice (some ⟨s, 0, none⟩) 1 1) old_R fun t wx hR hd => ⟨_, rfl, heap_alloc_last _ _⟩) .n
         intro t wz hR2 hk2
         simp only [fill, Ent.val, blkE, Ls0, Ls1, Ld1, Ld0, Ldn]
         obtain ⟨bs, ebs, hbs⟩ : ∃ b, t 23 = .slice (some ⟨b, 0, none⟩) 1 1 /\ wz.heap[b]? = some (.cells #[.int .u64 (lastI P Q G X Y Z n (Pp i))] 22 (0, 0)) := hk2 23 (by omega)
         rw [ebs]
         have HVz := hid (HV2.out.old' hR2)
         have HFz := hid (HF.out.old hR2)
         have HSz := hid HVz.out.ly.big
         clear hk2 hR2 HSc HG2 HT2 HX2 HX3 HX4 HV2 HF
         obtain ⟨⟨hi0, hz0, hz1, hz2⟩, hi1, hy0, hy1, hy2⟩ := HI.out
         go_wp2_with (at_builtin; refine wpList_append_lies _ rfl _ _ 29 rfl (s + 1) 22 i0 (.int .u64 0) 1 8 U29 hi0 hz0 hz1 hz2 rfl (by decide) _ _ _ rfl HVz.out.ly.nums ⟨bs, 0, none⟩ 1 1 [.int .u64 (lastI P Q G X Y Z n (Pp i))] rfl rfl ?c1 ?c2 (by decide) ?c3 ?c4 HSz.out _ rfl ?_)
         case c1 => exact za5 hbs
         case c2 => intro u hu; simp at hu; rcases hu with rfl; rfl
         case c3 => unfold maxLen; omega
         case c4 => omega
         intro g9 cap9 w9 hown9 hgrow9 hat9 _
         have hn9 : Nums w9 (s + 1) (.slice (some ⟨g9, 0, none⟩) (k + 1) cap9) (k + 1) T := Nums.app hown9 HTg.out
         obtain ⟨q0, f0, hv9⟩ := HVz.out.tgtn (m := 1) hn9 hgrow9 hat9
         obtain ⟨hr9, hl9⟩ := HFr.out.tgt (m := k + 1) (cap := cap9) hgrow9 hat9 HFz.out
         have HV9 := hid hv9
         have HF9 : Hid (Full (w9.setCell ⟨s, 0, none⟩ (.slice (some ⟨g9, 0, none⟩) (k + 1) cap9)) rb N (row18 p H)) := hl9 _ _
         have HR9 := hid hr9
         clear hv9 hr9 hl9 hn9 hown9 hgrow9 hat9 HVz HFz HFr hbs ebs HSz HTg hi0 hz0 hz1 hz2 hi1 hy0 hy1 hy2
         go_upto_region 39 with fail
         clear q0 f0
         generalize w9.setCell ⟨s, 0, none⟩ (.slice (some ⟨g9, 0, none⟩) (k + 1) cap9) = w3 at *
         have c1 := HV9.out.c1
         have hs3 : s + 1 <= w3.heap.size := HV9.out.ly.big
         obtain ⟨⟨hi0, hz0, hz1, hz2⟩, hi1, hy0, hy1, hy2⟩ := HI.out
         go_wp2_with (at_builtin; refine wpList_append_lies _ rfl _ _ 48 rfl (s + 1) 29 i1 (.slice none 0 0) 1 24 U48 hi1 hy0 hy1 hy2 rfl (by decide) _ _ _ rfl (World.ownsRow.alloc HV9.out.ly.own _) ⟨w3.heap.size, 0, none⟩ 1 1 [.slice (some ⟨rb, 0, none⟩) N N] rfl rfl ?c1 ?c2 (by decide) ?c3 ?c4 ?c5 _ rfl ?_)
         case c1 => exact cell_one_new _ _ _
         case c2 => intro x hx; simp at hx; subst hx; rfl
         case c3 => unfold maxLen; omega
         case c4 => omega
         case c5 => simp; omega
         intro g8 cap8 w8 hown8 hgrow8 hat8 _
         obtain ⟨q1, f1, hv8⟩ := (HV9.out.old' ((Old.refl _).alloc _)).bas HR9.out (HF9.out.old ((Old.refl _).alloc _)) (fun r _ => by rw [HRg.out]) hown8 hgrow8 (by simpa using hat8)
         have HL8 := hid hv8.y
         clear hv8 hown8 hgrow8 hat8 HV9 HF9 HR9 c1 hs3 HRg HOr Hrb hi0 hz0 hz1 hz2 hi1 hy0 hy1 hy2
         have HL9 : Hid (ClY W s N T R (4 * n + 2 * 0) (w8.setCell ⟨s, 1, none⟩ (.slice (some ⟨g8, 0, none⟩) (k + 1) cap8))) := by rw [show 4 * n + 2 * 0 = k + 1 by rw [Hk.out]; omega]; exact HL8
         clear HL8 HI1
         go_upto_region 40 with fail
         clear q1 f1
         generalize w8.setCell ⟨s, 1, none⟩ (.slice (some ⟨g8, 0, none⟩) (k + 1) cap8) = w9 at *
         clear hk80 Hk hin
         go_upto_region 41 with fail
         go_loopw [24] (fun iv wx => ∃ e : Nat, iv = .int .i64 (e : Int) /\ e <= 3 /\ Hid (ClY W s N T R (4 * n + 2 * e) wx)) (fun iv _ => 3 - (intOf iv).toNat)
         case atStart => exact ⟨0, rfl, by omega, HL9⟩
         case round =>
          obtain ⟨e, rfl, hi, HL⟩ := hrel
          by_cases hlt : e < 3
          ·have hlt2 : e < 3 := hlt
           have hlt3 : (e : Int) < 3 := by omega
           obtain ⟨k, hk0⟩ : ∃ k, k = 4 * n + 2 * e := ⟨_, rfl⟩
           have Hk := hid hk0
           rw [<- hk0] at HL
           have hk80 : k <= 80 := by omega
           obtain ⟨fU, hfU⟩ : ∃ fU : Nat -> Int, fU = fun j => expI P Q (C j (2 * e)) (powI X ((j : Int) + 1) Q) := ⟨_, rfl⟩
           obtain ⟨fV, hfV⟩ : ∃ fV : Nat -> Int, fV = fun j => expI P Q (C j (2 * e + 1)) (powI X ((j : Int) + 1) Q) := ⟨_, rfl⟩
           obtain ⟨fA, hfA⟩ : ∃ fA : Nat -> Int, fA = fun i => O i (2 * e) := ⟨_, rfl⟩
           obtain ⟨fB, hfB⟩ : ∃ fB : Nat -> Int, fB = fun i => O i (2 * e + 1) := ⟨_, rfl⟩
           have HTu : Hid (T k = prodI P fU n) := by unfold Hid; rw [hk0, hfU]; exact HT6.out e
           have HTv : Hid (T (k + 1) = prodI P fV n) := by unfold Hid; rw [hk0, hfV]; exact HT7.out e
           have HRu : Hid (R k = rowS8 (2 * n) n fA (7 * n + e) G) := by unfold Hid; rw [hk0, hfA]; exact HR6.out e
           have HRv : Hid (R (k + 1) = rowS8 (2 * n) n fB (7 * n + e) y) := by unfold Hid; rw [hk0, hfB]; exact HR7.out e
           have HEu : Hid (∀ wx i, i < n -> Calls prog 68 #[gv P Q G H a m cap, .int .u64 (C i (2 * e)), .int .u64 (powI X ((i : Int) + 1) Q)] wx (Ret wx (.int .u64 (fU i)))) := fun wx i hi => by rw [hfU]; exact zfn P Q G H a m cap _ _ H4.out (HCu.out i _ hi (by omega)) (zbi _ _ _) wx
           have HEv : Hid (∀ wx i, i < n -> Calls prog 68 #[gv P Q G H a m cap, .int .u64 (C i (2 * e + 1)), .int .u64 (powI X ((i : Int) + 1) Q)] wx (Ret wx (.int .u64 (fV i)))) := fun wx i hi => by rw [hfV]; exact zfn P Q G H a m cap _ _ H4.out (HCu.out i _ hi (by omega)) (zbi _ _ _) wx
           have HfUu : Hid (∀ i, U64 (fU i)) := fun i => by rw [hfU]; exact zaz _ _ _ _
           have HfVu : Hid (∀ i, U64 (fV i)) := fun i => by rw [hfV]; exact zaz _ _ _ _
           have HCa : Hid (∀ wx i, i < n -> Old W wx -> wx.cell? ⟨bo, oo + i * 6 + e * 2, none⟩ = some (.int .u64 (fA i))) := fun wx i hi ho => by have h := HOc.out wx i (2 * e) hi (by omega) ho; rw [hfA]; rwa [show oo + i * 6 + 2 * e = oo + i * 6 + e * 2 by omega] at h
           have HCb : Hid (∀ wx i, i < n -> Old W wx -> wx.cell? ⟨bo, oo + i * 6 + e * 2 + 1, none⟩ = some (.int .u64 (fB i))) := fun wx i hi ho => by have h := HOc.out wx i (2 * e + 1) hi (by omega) ho; rw [hfB]; rwa [show oo + i * 6 + (2 * e + 1) = oo + i * 6 + e * 2 + 1 by omega] at h
           have HCi : Hid (∀ wx i, i < n -> Old W wx -> wx.cell? ⟨bi, oi + i * 6 + e * 2, none⟩ = some (.int .u64 (C i (2 * e)))) := fun wx i hi ho => by have h := HCc.out wx i (2 * e) hi (by omega) ho; rwa [show oi + i * 6 + 2 * e = oi + i * 6 + e * 2 by omega] at h
           have HCj : Hid (∀ wx i, i < n -> Old W wx -> wx.cell? ⟨bi, oi + i * 6 + e * 2 + 1, none⟩ = some (.int .u64 (C i (2 * e + 1)))) := fun wx i hi ho => by have h := HCc.out wx i (2 * e + 1) hi (by omega) ho; rwa [show oi + i * 6 + (2 * e + 1) = oi + i * 6 + e * 2 + 1 by omega] at h
           clear hk0 hfU hfV hfA hfB
           go_upto_region 46 with (first
            | (go_at_call 85; have hg := o1; refine (HRw.out _).mono ?_; rintro e' w2 ⟨o2, rb, hrb, rfl, hf2⟩)
            | (go_at_call 85; refine (HRw.out _).mono ?_; rintro e' w1 ⟨o1, ra, hra, rfl, hf1⟩))
           obtain ⟨v, u, bk, hv⟩ := HL.out
           have HV := hid hv
           have hrb2 : wr.heap.size <= rb := Nat.le_trans o1.size hrb
           have HFa := hid (hv.fr hra)
           have HFb := hid (hv.fr hrb2)
           have HRs : Hid (wr.heap.size <= ra /\ wr.heap.size <= rb /\ ra ≠ rb) := ⟨hra, hrb2, by have := hf1.lt; omega⟩
           have HA0 : Hid (Full w2 ra N (zfw (2 * n) 0 fA)) := zep (hf1.old o2)
           have HB0 : Hid (Full w2 rb N (zfw (2 * n) 0 fB)) := zep hf2
           have HO0 := hid (o1.trans o2)
           have HOW := hid hv.ly.old
           clear hv hrb2 o1 o2 hra hrb hf1 hf2 HL
           go_loopw [25, 26, 29] (fun uv vv iv wx => ∃ i : Nat, iv = .int .i64 (i : Int) /\ i <= n /\ uv = .int .u64 (prodI P fU i) /\ vv = .int .u64 (prodI P fV i) /\ Hid (Full wx ra N (zfw (2 * n) i fA)) /\ Hid (Full wx rb N (zfw (2 * n) i fB)) /\ Hid (Old wr wx)) (fun _ _ iv _ => n - (intOf iv).toNat)
           case atStart => exact ⟨0, rfl, Nat.zero_le _, rfl, rfl, HA0, HB0, HO0⟩
           case round =>
            obtain ⟨i, rfl, hi, rfl, rfl, HA, HB, HO⟩ := hrel
            by_cases hlt : i < n
            ·have hlt4 : i < n := hlt
             have HOr := hid (HOW.out.trans HO.out)
             obtain ⟨g0, g1, g2, g3, g4⟩ := HGc.out _ HOr.out
             obtain ⟨t0, t1, t2, t3, t4, t5⟩ := HTc.out _ HOr.out
             have e1 : IntKind.i64.wrap ((i : Int) + 1) = (i : Int) + 1 := by rw [IntKind.wrap_i64]; omega
             go_upto_region 49 with (go_at_call 62; refine (HPw.out _ i hlt4).mono ?_; rintro e' w3 ⟨rfl, o3⟩)
             have HO3 := hid (HOr.out.trans o3)
             have HO3r := hid o3
             clear o3 g0 g1 g2 g3 g4 t0 t1 t2 t3 t4 t5 e1
             have HG3 := hid fun wy (ho : Old w3 wy) => HG.out _ (HO3.out.trans ho)
             have HX3 := hid fun wy (ho : Old w3 wy) => HCi.out wy i hlt4 (HO3.out.trans ho)
             have HY3 := hid fun wy (ho : Old w3 wy) => HCj.out wy i hlt4 (HO3.out.trans ho)
             refine zae 14 [.k (.int .u64 (prodI P fU i)), .k (gv P Q G H a m cap), .k (.slice (some ⟨bi, oi, none⟩) n ci), .k (.int .i64 (i : Int)), .k (.int .i64 (e : Int)), .k (.pointer (some ⟨bi, oi + i * 6, none⟩)), .k (.pointer (some ⟨bi, oi + i * 6 + e * 2, none⟩)), .k (.pointer (some ⟨bi, oi + i * 6 + e * 2, none⟩)), .k (.int .u64 (C i (2 * e))), .k (.int .u64 (powI X ((i : Int) + 1) Q)), .k (.int .u64 (fU i)), .k (.pointer (some ⟨gb, 0, none⟩)), .k (.int .u64 P), .k (.int .u64 (prodI P fU (i + 1)))] (Old w3) (by kernel_rfl) (by kernel_rfl) rfl ((Old.refl _).drew) ?st ?_
             case st =>
              refine .c stpz <| .c (stsz U25 HG3.out) <| .c stpz <| .c stpz <| .c stpz <| .c (stjz (n := n) (c := ci) 6 hlt4 U26) <| .c (sajz 2 hlt2 U74) <| .c stpz <| .c (stlz U22 HX3.out) <| .c stpz <| .c (stKz old_R func68 (fun wy _ => HEu.out wy i hlt4)) <| .c stpz <| .c (stfz 0 U22 HG3.out) <| .c (stKz old_R func70 (fun wy _ => zaO _ _ P (zaL _ _ _) (HfUu.out i) wy)) .n
             intro t wx hR hk
             simp only [fill, Ent.val, Ls0, Ls1, Ld1, Ld0, Ldn]
             go_upto_region 50 with fail
             have HO4 := hid hR
             clear hR hk
             have HG4 := hid fun wy (ho : Old wx wy) => HG3.out _ (HO4.out.trans ho)
             have HY4 := hid fun wy (ho : Old wx wy) => HY3.out wy (HO4.out.trans ho)
             refine zae 14 [.k (.int .u64 (prodI P fV i)), .k (gv P Q G H a m cap), .k (.slice (some ⟨bi, oi, none⟩) n ci), .k (.int .i64 (i : Int)), .k (.int .i64 (e : Int)), .k (.pointer (some ⟨bi, oi + i * 6, none⟩)), .k (.pointer (some ⟨bi, oi + i * 6 + e * 2, none⟩)), .k (.pointer (some ⟨bi, oi + i * 6 + e * 2 + 1, none⟩)), .k (.int .u64 (C i (2 * e + 1))), .k (.int .u64 (powI X ((i : Int) + 1) Q)), .k (.int .u64 (fV i)), .k (.pointer (some ⟨gb, 0, none⟩)), .k (.int .u64 P), .k (.int .u64 (prodI P fV (i + 1)))] (Old wx) (by kernel_rfl) (by kernel_rfl) rfl ((Old.refl _).drew) ?st ?_
             case st =>
              refine .c stpz <| .c (stsz U25 HG4.out) <| .c stpz <| .c stpz <| .c stpz <| .c (stjz (n := n) (c := ci) 6 hlt4 U26) <| .c (sajz 2 hlt2 U74) <| .c stpz <| .c (stlz U22 HY4.out) <| .c stpz <| .c (stKz old_R func68 (fun wy _ => HEv.out wy i hlt4)) <| .c stpz <| .c (stfz 0 U22 HG4.out) <| .c (stKz old_R func70 (fun wy _ => zaO _ _ P (zaL _ _ _) (HfVu.out i) wy)) .n
             intro t wz hR2 hk2
             simp only [fill, Ent.val, Ls0, Ls1, Ld1, Ld0, Ldn]
             go_upto_region 51 with fail
             have HO5 := hid ((HO3.out.trans HO4.out).trans hR2)
             have HO5r := hid ((HO3r.out.trans HO4.out).trans hR2)
             have HA5 := hid (HA.out.old HO5r.out)
             have HB5 := hid (HB.out.old HO5r.out)
             have HO5t : Hid _ := HO.out.trans HO5r.out
             clear hR2 hk2 HG3 HX3 HY3 HG4 HY4 HO4 HO3 HO3r HA HB
             obtain ⟨p, hp⟩ : ∃ p, p = 2 * n + i := ⟨_, rfl⟩
             have hp8 : p < N := by have := HNN.out; omega
             have e1 : IntKind.i64.wrap (2 * (n : Int)) = 2 * (n : Int) := by rw [IntKind.wrap_i64]; omega
             have e2 : IntKind.i64.wrap (2 * (n : Int) + (i : Int)) = (p : Int) := wi8 _ p (by omega) (by omega)
             have c1 := HCa.out wz i hlt4 HO5.out
             have q1 := HA5.out.cell p hp8
             have f1 := HA5.out.free p
             have HA6 : Hid (Full (wz.setCell ⟨ra, p, none⟩ (.int .u64 (fA i))) ra N (zfw (2 * n) (i + 1) fA)) := by rw [hp]; exact zeo HA5.out
             have HB6 : Hid (Full (wz.setCell ⟨ra, p, none⟩ (.int .u64 (fA i))) rb N (zfw (2 * n) i fB)) := HB5.out.other (p := ⟨ra, p, none⟩) (Ne.symm HRs.out.2.2) _
             have HO6 : Hid (Old W (wz.setCell ⟨ra, p, none⟩ (.int .u64 (fA i)))) := HO5.out.setCell (p := ⟨ra, p, none⟩) (Nat.le_trans HOW.out.size HRs.out.1) _
             have HO6t : Hid _ := HO5t.out.setCell (p := ⟨ra, p, none⟩) HRs.out.1 (.int .u64 (fA i))
             have Hp := hid hp
             clear HA5 HB5 HO5 HO5t HO5r hp
             go_upto_region 52 with fail
             clear c1 q1 f1
             generalize wz.setCell ⟨ra, p, none⟩ (.int .u64 (fA i)) = w6 at *
             have c1 := HCb.out w6 i hlt4 HO6.out
             have q1 := HB6.out.cell p hp8
             have f1 := HB6.out.free p
             have HA7 : Hid (Full (w6.setCell ⟨rb, p, none⟩ (.int .u64 (fB i))) ra N (zfw (2 * n) (i + 1) fA)) := HA6.out.other (p := ⟨rb, p, none⟩) HRs.out.2.2 _
             have HB7 : Hid (Full (w6.setCell ⟨rb, p, none⟩ (.int .u64 (fB i))) rb N (zfw (2 * n) (i + 1) fB)) := by rw [Hp.out]; exact zeo HB6.out
             have HO7t : Hid _ := HO6t.out.setCell (p := ⟨rb, p, none⟩) HRs.out.2.1 (.int .u64 (fB i))
             clear HA6 HB6 HO6 HO6t Hp HOr
             go_wp2_with fail
             go_roundw
             case rel => exact ⟨i + 1, zab i, by omega, rfl, rfl, HA7, HB7, HO7t⟩
             case measure => simp [intOf]; omega
            ·have he : n = i := by omega
             subst he
             have HOr := hid (HOW.out.trans HO.out)
             obtain ⟨q, hq⟩ : ∃ q, q = 7 * n + e := ⟨_, rfl⟩
             have hq8 : q < N := by have := HNN.out; omega
             have e3 : IntKind.i64.wrap (7 * (n : Int)) = 7 * (n : Int) := by rw [IntKind.wrap_i64]; omega
             have e4 : IntKind.i64.wrap (7 * (n : Int) + (e : Int)) = (q : Int) := wi8 _ q (by omega) (by omega)
             have HRu2 : Hid (R k = rowS8 (2 * n) n fA q G) := by unfold Hid; rw [hq]; exact HRu.out
             have HRv2 : Hid (R (k + 1) = rowS8 (2 * n) n fB q y) := by unfold Hid; rw [hq]; exact HRv.out
             have HA8 : Hid (Full (wr.setCell ⟨ra, q, none⟩ (.int .u64 G)) ra N (rowS8 (2 * n) n fA q G)) := zf9 HA.out (by omega)
             have HB8 : Hid (Full (wr.setCell ⟨ra, q, none⟩ (.int .u64 G)) rb N (zfw (2 * n) n fB)) := HB.out.other (p := ⟨ra, q, none⟩) (Ne.symm HRs.out.2.2) _
             have HO8t : Hid _ := HO.out.setCell (p := ⟨ra, q, none⟩) HRs.out.1 (.int .u64 G)
             have Hq : Hid (2 * n + n <= q) := by unfold Hid; omega
             obtain ⟨g0, g1, g2, g3, g4⟩ := HGc.out _ HOr.out
             have q1 := HA.out.cell q hq8
             have f1 := HA.out.free q
             clear HA HB HO hq HRu HRv HA0 HB0 HO0
             go_upto_region 54 with fail
             clear q1 f1 g0 g1 g2 g3 g4
             generalize wr.setCell ⟨ra, q, none⟩ (.int .u64 G) = w4 at *
             have q1 := HB8.out.cell q hq8
             have f1 := HB8.out.free q
             have HB9 : Hid (Full (w4.setCell ⟨rb, q, none⟩ (.int .u64 y)) rb N (rowS8 (2 * n) n fB q y)) := zf9 HB8.out Hq.out
             have HA9 : Hid (Full (w4.setCell ⟨rb, q, none⟩ (.int .u64 y)) ra N (rowS8 (2 * n) n fA q G)) := HA8.out.other (p := ⟨rb, q, none⟩) HRs.out.2.2 _
             have HV9 : Hid (ClV W s N T R k k v u bk (w4.setCell ⟨rb, q, none⟩ (.int .u64 y))) := HV.out.old' (HO8t.out.setCell (p := ⟨rb, q, none⟩) HRs.out.2.1 _)
             clear HA8 HB8 HO8t HV HOr Hq
             go_upto_region 55 with fail
             clear q1 f1 e3 e4 hq8
             generalize w4.setCell ⟨rb, q, none⟩ (.int .u64 y) = w5 at *
             have c1 := HV9.out.c0
             have hs5 : s + 1 <= w5.heap.size := HV9.out.ly.big
             obtain ⟨⟨hi0, hz0, hz1, hz2⟩, hi1, hy0, hy1, hy2⟩ := HI.out
             generalize hxu : prodI P fU n = xu at *
             generalize hxv : prodI P fV n = xv at *
             clear hxu hxv
             go_wp2_with (at_builtin; refine wpList_append_lies _ rfl _ _ 29 rfl (s + 1) 22 i0 (.int .u64 0) 1 8 U29 hi0 hz0 hz1 hz2 rfl (by decide) _ _ _ rfl (World.ownsRow.alloc HV9.out.ly.nums _) ⟨w5.heap.size, 0, none⟩ 2 2 [.int .u64 xu, .int .u64 xv] rfl rfl ?c1 ?c2 (by decide) ?c3 ?c4 ?c5 _ rfl ?_)
             case c1 => exact zf3 _ _ _
             case c2 => intro z hz; simp at hz; rcases hz with rfl | rfl <;> rfl
             case c3 => unfold maxLen; omega
             case c4 => omega
             case c5 => simp; omega
             intro g9 cap9 w9 hown9 hgrow9 hat9 _
             have hn9 : Nums w9 (s + 1) (.slice (some ⟨g9, 0, none⟩) (k + 2) cap9) (k + 2) T := Nums.app2 hown9 HTu.out HTv.out
             have ha9 := (HA9.out.old ((Old.refl w5).alloc (.cells #[.int .u64 xu, .int .u64 xv] 22)))
             have hb9 := (HB9.out.old ((Old.refl w5).alloc (.cells #[.int .u64 xu, .int .u64 xv] 22)))
             obtain ⟨q0, f0, hv9⟩ := (HV9.out.old' ((Old.refl _).alloc _)).tgtn (m := 2) hn9 hgrow9 (by simpa using hat9)
             obtain ⟨hra9, hla9⟩ := HFa.out.tgt (m := k + 2) (cap := cap9) hgrow9 (by simpa using hat9) ha9
             obtain ⟨hrb9, hlb9⟩ := HFb.out.tgt (m := k + 2) (cap := cap9) hgrow9 (by simpa using hat9) hb9
             have HVa := hid hv9
             have HAa : Hid (Full (w9.setCell ⟨s, 0, none⟩ (.slice (some ⟨g9, 0, none⟩) (k + 2) cap9)) ra N (rowS8 (2 * n) n fA q G)) := hla9 _ _
             have HBa : Hid (Full (w9.setCell ⟨s, 0, none⟩ (.slice (some ⟨g9, 0, none⟩) (k + 2) cap9)) rb N (rowS8 (2 * n) n fB q y)) := hlb9 _ _
             have HFc := hid hra9
             have HFd := hid hrb9
             clear hv9 hra9 hla9 hrb9 hlb9 hn9 ha9 hb9 hown9 hgrow9 hat9 HV9 HA9 HB9 HFa HFb c1 hs5 hi0 hz0 hz1 hz2 hi1 hy0 hy1 hy2
             go_upto_region 56 with fail
             clear q0 f0
             generalize w9.setCell ⟨s, 0, none⟩ (.slice (some ⟨g9, 0, none⟩) (k + 2) cap9) = w3 at *
             have c1 := HVa.out.c1
             have hs3 : s + 1 <= w3.heap.size := HVa.out.ly.big
             obtain ⟨⟨hi0, hz0, hz1, hz2⟩, hi1, hy0, hy1, hy2⟩ := HI.out
             go_wp2_with (at_builtin; refine wpList_append_lies _ rfl _ _ 48 rfl (s + 1) 29 i1 (.slice none 0 0) 1 24 U48 hi1 hy0 hy1 hy2 rfl (by decide) _ _ _ rfl (World.ownsRow.alloc HVa.out.ly.own _) ⟨w3.heap.size, 0, none⟩ 2 2 [.slice (some ⟨ra, 0, none⟩) N N, .slice (some ⟨rb, 0, none⟩) N N] rfl rfl ?c1 ?c2 (by decide) ?c3 ?c4 ?c5 _ rfl ?_)
             case c1 => exact zf3 _ _ _
             case c2 => intro z hz; simp at hz; rcases hz with rfl | rfl <;> rfl
             case c3 => unfold maxLen; omega
             case c4 => omega
             case c5 => simp; omega
             intro g8 cap8 w8 hown8 hgrow8 hat8 _
             obtain ⟨q1, f1, hv8⟩ := (HVa.out.old' ((Old.refl _).alloc _)).bas2 HFc.out HFd.out HRs.out.2.2 (HAa.out.old ((Old.refl _).alloc _)) (HBa.out.old ((Old.refl _).alloc _)) (fun r _ => by rw [HRu2.out]) (fun r _ => by rw [HRv2.out]) hown8 hgrow8 (by simpa using hat8)
             have HL8 := hid hv8.y
             clear hv8 hown8 hgrow8 hat8 HVa HAa HBa HFc HFd c1 hs3 HRu2 HRv2 hi0 hz0 hz1 hz2 hi1 hy0 hy1 hy2
             go_wp2_with fail
             go_roundw
             case rel => exact ⟨e + 1, zab e, by omega, by rw [show 4 * n + 2 * (e + 1) = k + 2 by have h := Hk.out; omega]; exact HL8⟩
             case measure => simp [intOf]; omega
          ·have he3 : e = 3 := by omega
           subst he3
           have hN80 : N <= 9223372036854775807 := by have := HNN.out; omega
           have hss : gb + 1 + 1 < s + 1 := by have h1 := HWs.out; have h2 := Hs.out; omega
           obtain ⟨v, u, hrow, hNm, hRw⟩ := HL.out.claim hN80
           have hcl := HCl.out _ HL.out.old
           obtain ⟨bt, ct, rfl⟩ := zau hNm
           obtain ⟨b2, c2, rfl⟩ := zau hRw.choose_spec.choose_spec.1
           have c1 : wr.cell? ⟨s, 0, none⟩ = some (.slice bt (4 * n + 2 * 3) ct) := Y0 hrow
           have c2' : wr.cell? ⟨s, 1, none⟩ = some (.slice b2 (4 * n + 2 * 3) c2) := Y1 hrow
           have q0 : wr.cell? ⟨gb + 1 + 1, 0, none⟩ = some (.slice none 0 0) := Y0 hcl
           have q1 : wr.cell? ⟨gb + 1 + 1, 1, none⟩ = some (.slice none 0 0) := Y1 hcl
           have f0 : wr.frozen? ⟨gb + 1 + 1, 0, none⟩ = false := zac hcl 0
           have f1 : wr.frozen? ⟨gb + 1 + 1, 1, none⟩ = false := zac hcl 1
           have HRh := hid hcl
           have HNn := hid hNm
           have HRn := hid hRw
           have HOe := hid (HW0.out.trans HL.out.old)
           have Hss := hid hss
           clear hrow hNm hRw hcl HL hss
           go_wp2_with fail
           exact bodyPost_ret (zay (b := gb + 1 + 1) rfl rfl rfl (zaW HRh.out U50 zbX)) rfl (givD_yes rfl Hgb.out Hss.out HOe.out HNn.out HRn.out)
end
end Go.Proofs.YtlnmjbbpenhdbaaGreat
