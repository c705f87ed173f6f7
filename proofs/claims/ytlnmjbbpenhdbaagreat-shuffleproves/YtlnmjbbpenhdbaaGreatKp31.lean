/-
  What the proof needs, part 31.
-/
import Derived.Test.YtlnmjbbpenhdbaaGreatKp28
import Derived.Test.YtlnmjbbpenhdbaaGreatKp26
import Derived.Test.YtlnmjbbpenhdbaaGreatKp11
import Derived.Test.YtlnmjbbpenhdbaaGreatKp16
import Derived.Test.YtlnmjbbpenhdbaaGreatKp09
import Derived.Deep.AppendLies
import Derived.Test.YtlnmjbbpenhdbaaGreatKp17
import Derived.Test.YtlnmjbbpenhdbaaGreatKp20
namespace Go.Proofs.YtlnmjbbpenhdbaaGreat
set_option linter.unusedSimpArgs false
set_option linter.unusedVariables false
set_option maxRecDepth 100000
set_option maxHeartbeats 32000000
section
open Go Go.RowKit
theorem rclm8_no (P Q G H : Int) (a : Option Addr) (m cap : Nat) (y : Int) (bi : Option Addr) (l ci : Nat) (C : Nat -> Nat -> Int) (bo : Option Addr) (no co : Nat) (O : Nat -> Nat -> Int) (ba : Option Addr) (na ca : Nat) (A : Nat -> Int) (X : Int) (bb : Option Addr) (nb cb : Nat) (B : Nat -> Int) (Y Z : Int) (bp : Option Addr) (np cp : Nat) (Pp : Nat -> Int) (w : World) (hl : l <= 9223372036854775807) (hln : no <= 9223372036854775807) (hla : na <= 9223372036854775807) (hlb : nb <= 9223372036854775807) (hlp : np <= 9223372036854775807) (h4 : Four P Q G H) (hy : U64 y) (hX : U64 X) (hY : U64 Y) (hZ : U64 Z) (hC : BoxsIn w bi l C) (hO : BoxsIn w bo no O) (hA : FacsIn w ba na A) (hB : FacsIn w bb nb B) (hP : FacsIn w bp np Pp) (hno : clmB P Q G y l C no O na A nb B np Pp Y Z = false) :
  Calls Tryz.prog 29 #[gv P Q G H a m cap, .int .u64 y, .slice bi l ci, .slice bo no co, tk ba na ca X bb nb cb Y Z bp np cp] w (GivD w (clmB P Q G y l C no O na A nb B np Pp Y Z) (4 * l + 6) (tgtT P Q G X Y Z l A B Pp (fun j w => C j (2 * w)) (fun j w => C j (2 * w + 1))) (fun _ => 7 * l + 3) (bas8 l Pp G H y (fun j w => O j (2 * w)) (fun j w => O j (2 * w + 1)))) := by
 obtain ⟨T, hT⟩ : ∃ T, T = (tgtT P Q G X Y Z l A B Pp (fun j w => C j (2 * w)) (fun j w => C j (2 * w + 1))) := ⟨_, rfl⟩
 obtain ⟨R, hRr⟩ : ∃ R, R = (bas8 l Pp G H y (fun j w => O j (2 * w)) (fun j w => O j (2 * w + 1))) := ⟨_, rfl⟩
 rw [<- hT, <- hRr]
 clear hT hRr
 have HNo : Hid (clmB P Q G y l C no O na A nb B np Pp Y Z = false) := hno
 obtain ⟨D0, hD0⟩ : ∃ D0, D0 = bigI P Q G (A 0) (B 0) Y Z := ⟨_, rfl⟩
 have hcl0 : fitB l no na nb np = true -> eltB P Q y l C no O na A nb B np Pp = true -> ¬ Pp 0 = D0 := fun h1 h2 h3 => by
  unfold clmB at hno
  rw [h1, h2, h3, hD0] at hno
  simp at hno
 have HBi : Hid (∀ wx, Old w wx -> Calls Tryz.prog 54 #[gv P Q G H a m cap, .slice bi l ci] wx (Ret wx (.bool (batB P Q l C)))) := fun wx ho => rbatch8_any P Q G H a m cap bi l ci C wx h4 hl (hC.old ho)
 have HBo : Hid (∀ wx, Old w wx -> Calls Tryz.prog 54 #[gv P Q G H a m cap, .slice bo no co] wx (Ret wx (.bool (batB P Q no O)))) := fun wx ho => rbatch8_any P Q G H a m cap bo no co O wx h4 hln (hO.old ho)
 have HIn : Hid (∀ wx, Calls Tryz.prog 55 #[gv P Q G H a m cap, .int .u64 y] wx (Ret wx (.bool (inI P Q y)))) := fun wx => rin_any P Q G H y a m cap wx h4.q0 h4.q1 hy.2
 have HEa : Hid (∀ wx, Old w wx -> Calls Tryz.prog 84 #[gv P Q G H a m cap, .slice ba na ca] wx (Ret wx (.bool (elB P Q na A)))) := fun wx ho => relements8_any P Q G H a m cap ba na ca A wx h4 hla (hA.old ho)
 have HEb : Hid (∀ wx, Old w wx -> Calls Tryz.prog 84 #[gv P Q G H a m cap, .slice bb nb cb] wx (Ret wx (.bool (elB P Q nb B)))) := fun wx ho => relements8_any P Q G H a m cap bb nb cb B wx h4 hlb (hB.old ho)
 have HEp : Hid (∀ wx, Old w wx -> Calls Tryz.prog 84 #[gv P Q G H a m cap, .slice bp np cp] wx (Ret wx (.bool (elB P Q np Pp)))) := fun wx ho => relements8_any P Q G H a m cap bp np cp Pp wx h4 hlp (hP.old ho)
 have HBg0 : Hid (0 < na -> 0 < nb -> ∀ wx, Old w wx -> Calls Tryz.prog 67 #[gv P Q G H a m cap, tk ba na ca X bb nb cb Y Z bp np cp, .int .i64 0] wx (Ret wx (.int .u64 D0))) := fun h1 h2 wx ho => by rw [hD0]; exact rbig8_any P Q G H a m cap ba na ca X bb nb cb Y Z bp np cp A B 0 wx h4 h1 h2 hY hZ (hA.old ho) (hB.old ho)
 have HPh : Hid (FacsIn w bp np Pp) := hP
 have Hcl0 : Hid (fitB l no na nb np = true -> eltB P Q y l C no O na A nb B np Pp = true -> ¬ Pp 0 = D0) := hcl0
 clear hD0 hno hcl0 hC hO hA hB hP h4 hy hX hY hZ
 have HZ := lain3 w (gc P Q G H a m cap) (tkc ba na ca X bb nb cb Y Z bp np cp) (cc none 0 0 none 0 0) 25 41 50
 have HG0 := fun w' ho => (HZ.then (W' := w') ho).row 0 (by simp)
 have HTk0 := fun w' ho => (HZ.then (W' := w') ho).row 1 (by simp)
 have HCl0 := fun w' ho => (HZ.then (W' := w') ho).row 2 (by simp)
 have HW0 : Hid (Old w (((w.alloc (.cells (gc P Q G H a m cap) 25)).alloc (.cells (tkc ba na ca X bb nb cb Y Z bp np cp) 41)).alloc (.cells (cc none 0 0 none 0 0) 50))) := HZ.old
 clear HZ
 go_enter Tryz.func29, Tryz.ntmps29
 go_upto_region 1 with fail
 generalize (((w.alloc (.cells (gc P Q G H a m cap) 25)).alloc (.cells (tkc ba na ca X bb nb cb Y Z bp np cp) 41)).alloc (.cells (cc none 0 0 none 0 0) 50)) = W at *
 have HG : Hid (∀ wx, Old W wx -> wx.heap[w.heap.size]? = some (.cells (gc P Q G H a m cap) 25 (0, 0))) := HG0
 have HTk : Hid (∀ wx, Old W wx -> wx.heap[w.heap.size + 1]? = some (.cells (tkc ba na ca X bb nb cb Y Z bp np cp) 41 (0, 0))) := HTk0
 have HCl : Hid (∀ wx, Old W wx -> wx.heap[w.heap.size + 1 + 1]? = some (.cells (cc none 0 0 none 0 0) 50 (0, 0))) := HCl0
 clear HG0 HTk0 HCl0
 obtain ⟨gb, hgb⟩ : ∃ gb, gb = w.heap.size := ⟨_, rfl⟩
 rw [<- hgb] at HG HTk HCl
 rw [<- hgb]
 have Hgb : Hid (w.heap.size <= gb + 1 + 1) := by unfold Hid; omega
 clear hgb
 have HGc : Hid (∀ wx, Old W wx -> wx.cell? ⟨gb, 0, none⟩ = some (.int .u64 P) /\ wx.cell? ⟨gb, 1, none⟩ = some (.int .u64 Q) /\ wx.cell? ⟨gb, 2, none⟩ = some (.int .u64 G) /\ wx.cell? ⟨gb, 3, none⟩ = some (.int .u64 H) /\ wx.cell? ⟨gb, 4, none⟩ = some (.slice a m cap)) := fun wx ho => ⟨cell_of_row _ _ 0 _ _ (0, 0) (HG.out _ ho), cell_of_row _ _ 1 _ _ (0, 0) (HG.out _ ho), cell_of_row _ _ 2 _ _ (0, 0) (HG.out _ ho), cell_of_row _ _ 3 _ _ (0, 0) (HG.out _ ho), cell_of_row _ _ 4 _ _ (0, 0) (HG.out _ ho)⟩
 have HTc : Hid (∀ wx, Old W wx -> wx.cell? ⟨gb + 1, 0, none⟩ = some (.slice ba na ca) /\ wx.cell? ⟨gb + 1, 1, none⟩ = some (.int .u64 X) /\ wx.cell? ⟨gb + 1, 2, none⟩ = some (.slice bb nb cb) /\ wx.cell? ⟨gb + 1, 3, none⟩ = some (.int .u64 Y) /\ wx.cell? ⟨gb + 1, 4, none⟩ = some (.int .u64 Z) /\ wx.cell? ⟨gb + 1, 5, none⟩ = some (.slice bp np cp)) := fun wx ho => ⟨cell_of_row _ _ 0 _ _ (0, 0) (HTk.out _ ho), cell_of_row _ _ 1 _ _ (0, 0) (HTk.out _ ho), cell_of_row _ _ 2 _ _ (0, 0) (HTk.out _ ho), cell_of_row _ _ 3 _ _ (0, 0) (HTk.out _ ho), cell_of_row _ _ 4 _ _ (0, 0) (HTk.out _ ho), cell_of_row _ _ 5 _ _ (0, 0) (HTk.out _ ho)⟩
 go_upto_region 3 with fail
 have HO2 : Hid (Old W (W.alloc (.cells #[.slice none 0 0, .slice none 0 0] 50))) := (Old.refl _).alloc _
 have HNb : Hid ((W.alloc (.cells #[.slice none 0 0, .slice none 0 0] 50)).heap[W.heap.size]? = some (.cells #[.slice none 0 0, .slice none 0 0] 50 (0, 0))) := heap_alloc_last _ _
 generalize W.alloc (.cells #[.slice none 0 0, .slice none 0 0] 50) = W2 at *
 generalize W.heap.size = nn at *
 have HNc : Hid (∀ wx, Old W2 wx -> wx.cell? ⟨nn, 0, none⟩ = some (.slice none 0 0) /\ wx.cell? ⟨nn, 1, none⟩ = some (.slice none 0 0)) := fun wx ho => by
  have h := (ho.block _ (obj_lt HNb.out)).trans HNb.out
  exact ⟨cell_of_row _ _ 0 _ _ (0, 0) h, cell_of_row _ _ 1 _ _ (0, 0) h⟩
 clear HNb
 obtain ⟨g0, g1, g2, g3, g4⟩ := HGc.out _ HO2.out
 cases hb1 : batB P Q l C with
 | false =>
  rw [hb1] at HBi
  clear hb1
  go_upto_region 4 with (go_at_call 54; refine (HBi.out _ (HW0.out.trans HO2.out)).mono ?_; rintro e w1 ⟨rfl, o1⟩; obtain ⟨g0, g1, g2, g3, g4⟩ := HGc.out _ (HO2.out.trans o1))
  have HOn : Hid (Old W2 w1) := o1
  obtain ⟨z0, z1⟩ := HNc.out _ HOn.out
  have hcl := HCl.out _ (HO2.out.trans HOn.out)
  have q0 : (w1).cell? ⟨gb + 1 + 1, 0, none⟩ = some (.slice none 0 0) := cell_of_row _ _ 0 _ _ (0, 0) hcl
  have q1 : (w1).cell? ⟨gb + 1 + 1, 1, none⟩ = some (.slice none 0 0) := cell_of_row _ _ 1 _ _ (0, 0) hcl
  have f0 : (w1).frozen? ⟨gb + 1 + 1, 0, none⟩ = false := row_frozen hcl 0
  have f1 : (w1).frozen? ⟨gb + 1 + 1, 1, none⟩ = false := row_frozen hcl 1
  have HRh : Hid ((w1).heap[gb + 1 + 1]? = some (.cells #[.slice none 0 0, .slice none 0 0] 50 (0, 0))) := hcl
  clear hcl
  go_wp2_with fail
  exact bodyPost_ret (result_pair (b := gb + 1 + 1) rfl rfl rfl (load_two HRh.out Tryz.underlying50 info_claim)) rfl (givD_no (W' := w1) HNo.out Hgb.out (HW0.out.trans (HO2.out.trans HOn.out)))
 | true =>
  rw [hb1] at HBi
  have h1n : 0 < l /\ l <= 8 := (batB_iff.1 hb1).1
  cases hb2 : batB P Q no O with
  | false =>
   rw [hb2] at HBo
   clear hb1 hb2
   go_upto_region 4 with (first
     | (go_at_call 54; have hg := o1; refine (HBo.out _ ((HW0.out.trans HO2.out).trans o1)).mono ?_; rintro e w2 ⟨rfl, o2⟩; obtain ⟨g0, g1, g2, g3, g4⟩ := HGc.out _ ((HO2.out.trans o1).trans o2))
     | (go_at_call 54; refine (HBi.out _ (HW0.out.trans HO2.out)).mono ?_; rintro e w1 ⟨rfl, o1⟩; obtain ⟨g0, g1, g2, g3, g4⟩ := HGc.out _ (HO2.out.trans o1)))
   have HOn : Hid (Old W2 w2) := o1.trans o2
   obtain ⟨z0, z1⟩ := HNc.out _ HOn.out
   have hcl := HCl.out _ (HO2.out.trans HOn.out)
   have q0 : (w2).cell? ⟨gb + 1 + 1, 0, none⟩ = some (.slice none 0 0) := cell_of_row _ _ 0 _ _ (0, 0) hcl
   have q1 : (w2).cell? ⟨gb + 1 + 1, 1, none⟩ = some (.slice none 0 0) := cell_of_row _ _ 1 _ _ (0, 0) hcl
   have f0 : (w2).frozen? ⟨gb + 1 + 1, 0, none⟩ = false := row_frozen hcl 0
   have f1 : (w2).frozen? ⟨gb + 1 + 1, 1, none⟩ = false := row_frozen hcl 1
   have HRh : Hid ((w2).heap[gb + 1 + 1]? = some (.cells #[.slice none 0 0, .slice none 0 0] 50 (0, 0))) := hcl
   clear hcl
   go_wp2_with fail
   exact bodyPost_ret (result_pair (b := gb + 1 + 1) rfl rfl rfl (load_two HRh.out Tryz.underlying50 info_claim)) rfl (givD_no (W' := w2) HNo.out Hgb.out (HW0.out.trans (HO2.out.trans HOn.out)))
  | true =>
   rw [hb2] at HBo
   cases hb3 : inI P Q y with
   | false =>
    rw [hb3] at HIn
    clear hb1 hb2 hb3
    go_upto_region 4 with (first
      | (go_at_call 55; have hg := o2; refine (HIn.out _).mono ?_; rintro e w3 ⟨rfl, o3⟩; obtain ⟨t0, t1, t2, t3, t4, t5⟩ := HTc.out _ (((HO2.out.trans o1).trans o2).trans o3))
      | (go_at_call 54; have hg := o1; refine (HBo.out _ ((HW0.out.trans HO2.out).trans o1)).mono ?_; rintro e w2 ⟨rfl, o2⟩; obtain ⟨g0, g1, g2, g3, g4⟩ := HGc.out _ ((HO2.out.trans o1).trans o2))
      | (go_at_call 54; refine (HBi.out _ (HW0.out.trans HO2.out)).mono ?_; rintro e w1 ⟨rfl, o1⟩; obtain ⟨g0, g1, g2, g3, g4⟩ := HGc.out _ (HO2.out.trans o1)))
    have HOn : Hid (Old W2 w3) := (o1.trans o2).trans o3
    obtain ⟨z0, z1⟩ := HNc.out _ HOn.out
    have hcl := HCl.out _ (HO2.out.trans HOn.out)
    have q0 : (w3).cell? ⟨gb + 1 + 1, 0, none⟩ = some (.slice none 0 0) := cell_of_row _ _ 0 _ _ (0, 0) hcl
    have q1 : (w3).cell? ⟨gb + 1 + 1, 1, none⟩ = some (.slice none 0 0) := cell_of_row _ _ 1 _ _ (0, 0) hcl
    have f0 : (w3).frozen? ⟨gb + 1 + 1, 0, none⟩ = false := row_frozen hcl 0
    have f1 : (w3).frozen? ⟨gb + 1 + 1, 1, none⟩ = false := row_frozen hcl 1
    have HRh : Hid ((w3).heap[gb + 1 + 1]? = some (.cells #[.slice none 0 0, .slice none 0 0] 50 (0, 0))) := hcl
    clear hcl
    go_wp2_with fail
    exact bodyPost_ret (result_pair (b := gb + 1 + 1) rfl rfl rfl (load_two HRh.out Tryz.underlying50 info_claim)) rfl (givD_no (W' := w3) HNo.out Hgb.out (HW0.out.trans (HO2.out.trans HOn.out)))
   | true =>
    rw [hb3] at HIn
    by_cases e0 : no = l
    rotate_left
    · have k0 : ¬ (no : Int) = (l : Int) := by omega
     clear hb1 hb2 hb3 e0
     go_upto_region 4 with (first
       | (go_at_call 55; have hg := o2; refine (HIn.out _).mono ?_; rintro e w3 ⟨rfl, o3⟩; obtain ⟨t0, t1, t2, t3, t4, t5⟩ := HTc.out _ (((HO2.out.trans o1).trans o2).trans o3))
       | (go_at_call 54; have hg := o1; refine (HBo.out _ ((HW0.out.trans HO2.out).trans o1)).mono ?_; rintro e w2 ⟨rfl, o2⟩; obtain ⟨g0, g1, g2, g3, g4⟩ := HGc.out _ ((HO2.out.trans o1).trans o2))
       | (go_at_call 54; refine (HBi.out _ (HW0.out.trans HO2.out)).mono ?_; rintro e w1 ⟨rfl, o1⟩; obtain ⟨g0, g1, g2, g3, g4⟩ := HGc.out _ (HO2.out.trans o1)))
     have HOn : Hid (Old W2 w3) := (o1.trans o2).trans o3
     obtain ⟨z0, z1⟩ := HNc.out _ HOn.out
     have hcl := HCl.out _ (HO2.out.trans HOn.out)
     have q0 : (w3).cell? ⟨gb + 1 + 1, 0, none⟩ = some (.slice none 0 0) := cell_of_row _ _ 0 _ _ (0, 0) hcl
     have q1 : (w3).cell? ⟨gb + 1 + 1, 1, none⟩ = some (.slice none 0 0) := cell_of_row _ _ 1 _ _ (0, 0) hcl
     have f0 : (w3).frozen? ⟨gb + 1 + 1, 0, none⟩ = false := row_frozen hcl 0
     have f1 : (w3).frozen? ⟨gb + 1 + 1, 1, none⟩ = false := row_frozen hcl 1
     have HRh : Hid ((w3).heap[gb + 1 + 1]? = some (.cells #[.slice none 0 0, .slice none 0 0] 50 (0, 0))) := hcl
     clear hcl
     go_wp2_with fail
     exact bodyPost_ret (result_pair (b := gb + 1 + 1) rfl rfl rfl (load_two HRh.out Tryz.underlying50 info_claim)) rfl (givD_no (W' := w3) HNo.out Hgb.out (HW0.out.trans (HO2.out.trans HOn.out)))
    by_cases e1 : na = l
    rotate_left
    · have k0 : (no : Int) = (l : Int) := by omega
     have k1 : ¬ (na : Int) = (l : Int) := by omega
     clear hb1 hb2 hb3 e0 e1
     go_upto_region 4 with (first
       | (go_at_call 55; have hg := o2; refine (HIn.out _).mono ?_; rintro e w3 ⟨rfl, o3⟩; obtain ⟨t0, t1, t2, t3, t4, t5⟩ := HTc.out _ (((HO2.out.trans o1).trans o2).trans o3))
       | (go_at_call 54; have hg := o1; refine (HBo.out _ ((HW0.out.trans HO2.out).trans o1)).mono ?_; rintro e w2 ⟨rfl, o2⟩; obtain ⟨g0, g1, g2, g3, g4⟩ := HGc.out _ ((HO2.out.trans o1).trans o2))
       | (go_at_call 54; refine (HBi.out _ (HW0.out.trans HO2.out)).mono ?_; rintro e w1 ⟨rfl, o1⟩; obtain ⟨g0, g1, g2, g3, g4⟩ := HGc.out _ (HO2.out.trans o1)))
     have HOn : Hid (Old W2 w3) := (o1.trans o2).trans o3
     obtain ⟨z0, z1⟩ := HNc.out _ HOn.out
     have hcl := HCl.out _ (HO2.out.trans HOn.out)
     have q0 : (w3).cell? ⟨gb + 1 + 1, 0, none⟩ = some (.slice none 0 0) := cell_of_row _ _ 0 _ _ (0, 0) hcl
     have q1 : (w3).cell? ⟨gb + 1 + 1, 1, none⟩ = some (.slice none 0 0) := cell_of_row _ _ 1 _ _ (0, 0) hcl
     have f0 : (w3).frozen? ⟨gb + 1 + 1, 0, none⟩ = false := row_frozen hcl 0
     have f1 : (w3).frozen? ⟨gb + 1 + 1, 1, none⟩ = false := row_frozen hcl 1
     have HRh : Hid ((w3).heap[gb + 1 + 1]? = some (.cells #[.slice none 0 0, .slice none 0 0] 50 (0, 0))) := hcl
     clear hcl
     go_wp2_with fail
     exact bodyPost_ret (result_pair (b := gb + 1 + 1) rfl rfl rfl (load_two HRh.out Tryz.underlying50 info_claim)) rfl (givD_no (W' := w3) HNo.out Hgb.out (HW0.out.trans (HO2.out.trans HOn.out)))
    by_cases e2 : nb = l
    rotate_left
    · have k0 : (no : Int) = (l : Int) := by omega
     have k1 : (na : Int) = (l : Int) := by omega
     have k2 : ¬ (nb : Int) = (l : Int) := by omega
     clear hb1 hb2 hb3 e0 e1 e2
     go_upto_region 4 with (first
       | (go_at_call 55; have hg := o2; refine (HIn.out _).mono ?_; rintro e w3 ⟨rfl, o3⟩; obtain ⟨t0, t1, t2, t3, t4, t5⟩ := HTc.out _ (((HO2.out.trans o1).trans o2).trans o3))
       | (go_at_call 54; have hg := o1; refine (HBo.out _ ((HW0.out.trans HO2.out).trans o1)).mono ?_; rintro e w2 ⟨rfl, o2⟩; obtain ⟨g0, g1, g2, g3, g4⟩ := HGc.out _ ((HO2.out.trans o1).trans o2))
       | (go_at_call 54; refine (HBi.out _ (HW0.out.trans HO2.out)).mono ?_; rintro e w1 ⟨rfl, o1⟩; obtain ⟨g0, g1, g2, g3, g4⟩ := HGc.out _ (HO2.out.trans o1)))
     have HOn : Hid (Old W2 w3) := (o1.trans o2).trans o3
     obtain ⟨z0, z1⟩ := HNc.out _ HOn.out
     have hcl := HCl.out _ (HO2.out.trans HOn.out)
     have q0 : (w3).cell? ⟨gb + 1 + 1, 0, none⟩ = some (.slice none 0 0) := cell_of_row _ _ 0 _ _ (0, 0) hcl
     have q1 : (w3).cell? ⟨gb + 1 + 1, 1, none⟩ = some (.slice none 0 0) := cell_of_row _ _ 1 _ _ (0, 0) hcl
     have f0 : (w3).frozen? ⟨gb + 1 + 1, 0, none⟩ = false := row_frozen hcl 0
     have f1 : (w3).frozen? ⟨gb + 1 + 1, 1, none⟩ = false := row_frozen hcl 1
     have HRh : Hid ((w3).heap[gb + 1 + 1]? = some (.cells #[.slice none 0 0, .slice none 0 0] 50 (0, 0))) := hcl
     clear hcl
     go_wp2_with fail
     exact bodyPost_ret (result_pair (b := gb + 1 + 1) rfl rfl rfl (load_two HRh.out Tryz.underlying50 info_claim)) rfl (givD_no (W' := w3) HNo.out Hgb.out (HW0.out.trans (HO2.out.trans HOn.out)))
    by_cases e3 : np = l
    rotate_left
    · have k0 : (no : Int) = (l : Int) := by omega
     have k1 : (na : Int) = (l : Int) := by omega
     have k2 : (nb : Int) = (l : Int) := by omega
     have k3 : ¬ (np : Int) = (l : Int) := by omega
     clear hb1 hb2 hb3 e0 e1 e2 e3
     go_upto_region 4 with (first
       | (go_at_call 55; have hg := o2; refine (HIn.out _).mono ?_; rintro e w3 ⟨rfl, o3⟩; obtain ⟨t0, t1, t2, t3, t4, t5⟩ := HTc.out _ (((HO2.out.trans o1).trans o2).trans o3))
       | (go_at_call 54; have hg := o1; refine (HBo.out _ ((HW0.out.trans HO2.out).trans o1)).mono ?_; rintro e w2 ⟨rfl, o2⟩; obtain ⟨g0, g1, g2, g3, g4⟩ := HGc.out _ ((HO2.out.trans o1).trans o2))
       | (go_at_call 54; refine (HBi.out _ (HW0.out.trans HO2.out)).mono ?_; rintro e w1 ⟨rfl, o1⟩; obtain ⟨g0, g1, g2, g3, g4⟩ := HGc.out _ (HO2.out.trans o1)))
     have HOn : Hid (Old W2 w3) := (o1.trans o2).trans o3
     obtain ⟨z0, z1⟩ := HNc.out _ HOn.out
     have hcl := HCl.out _ (HO2.out.trans HOn.out)
     have q0 : (w3).cell? ⟨gb + 1 + 1, 0, none⟩ = some (.slice none 0 0) := cell_of_row _ _ 0 _ _ (0, 0) hcl
     have q1 : (w3).cell? ⟨gb + 1 + 1, 1, none⟩ = some (.slice none 0 0) := cell_of_row _ _ 1 _ _ (0, 0) hcl
     have f0 : (w3).frozen? ⟨gb + 1 + 1, 0, none⟩ = false := row_frozen hcl 0
     have f1 : (w3).frozen? ⟨gb + 1 + 1, 1, none⟩ = false := row_frozen hcl 1
     have HRh : Hid ((w3).heap[gb + 1 + 1]? = some (.cells #[.slice none 0 0, .slice none 0 0] 50 (0, 0))) := hcl
     clear hcl
     go_wp2_with fail
     exact bodyPost_ret (result_pair (b := gb + 1 + 1) rfl rfl rfl (load_two HRh.out Tryz.underlying50 info_claim)) rfl (givD_no (W' := w3) HNo.out Hgb.out (HW0.out.trans (HO2.out.trans HOn.out)))
    have e0' := e0.symm
    have e1' := e1.symm
    have e2' := e2.symm
    have e3' := e3.symm
    clear e0 e1 e2 e3
    subst e0' e1' e2' e3'
    have Hfit : Hid (fitB l l l l l = true) := fitB_iff.2 ⟨⟨h1n.1, h1n.2⟩, rfl, rfl, rfl, rfl⟩
    have HB3 : Hid (batB P Q l C = true /\ batB P Q l O = true /\ inI P Q y = true) := ⟨hb1, hb2, hb3⟩
    have k0 : (l : Int) = (l : Int) := rfl
    clear hb1 hb2 hb3
    go_upto_region 5 with (first
      | (go_at_call 55; have hg := o2; refine (HIn.out _).mono ?_; rintro e w3 ⟨rfl, o3⟩; obtain ⟨t0, t1, t2, t3, t4, t5⟩ := HTc.out _ (((HO2.out.trans o1).trans o2).trans o3))
      | (go_at_call 54; have hg := o1; refine (HBo.out _ ((HW0.out.trans HO2.out).trans o1)).mono ?_; rintro e w2 ⟨rfl, o2⟩; obtain ⟨g0, g1, g2, g3, g4⟩ := HGc.out _ ((HO2.out.trans o1).trans o2))
      | (go_at_call 54; refine (HBi.out _ (HW0.out.trans HO2.out)).mono ?_; rintro e w1 ⟨rfl, o1⟩; obtain ⟨g0, g1, g2, g3, g4⟩ := HGc.out _ (HO2.out.trans o1)))
    have HO5 : Hid (Old W2 w3) := (o1.trans o2).trans o3
    have HOw : Hid (Old w w3) := HW0.out.trans (HO2.out.trans HO5.out)
    clear g0 g1 g2 g3 g4 o1 o2 o3 t0 t1 t2 t3 t4 t5 HBi HBo HIn k0
    rcases HPh.out with h0 | ⟨bp, op, hqp, _, hrp⟩
    · omega
    subst hqp
    have HP5 : Hid (∀ wx, Old w3 wx -> wx.cell? ⟨bp, op, none⟩ = some (.int .u64 (Pp 0))) := fun wx ho => (HOw.out.trans ho).cellOf (hrp 0 h1n.1).1
    clear hrp
    have HG5 : Hid (∀ wx, Old w3 wx -> wx.heap[gb]? = some (.cells (gc P Q G H a m cap) 25 (0, 0))) := fun wx ho => HG.out _ ((HO2.out.trans HO5.out).trans ho)
    have HT5k : Hid (∀ wx, Old w3 wx -> wx.heap[gb + 1]? = some (.cells (tkc ba l ca X bb l cb Y Z (some ⟨bp, op, none⟩) l cp) 41 (0, 0))) := fun wx ho => HTk.out _ ((HO2.out.trans HO5.out).trans ho)
    have h1n : 0 < l := h1n.1
    have HBg0 : Hid (∀ wx, Old w wx -> Calls Tryz.prog 67 #[gv P Q G H a m cap, tk ba l ca X bb l cb Y Z (some ⟨bp, op, none⟩) l cp, .int .i64 0] wx (Ret wx (.int .u64 D0))) := HBg0.out h1n h1n
    cases ha : elB P Q l A with
    | false =>
     rw [ha] at HEa
     clear ha
     refine wp_region_tabz 29 [.k (gv P Q G H a m cap), .k (.pointer (some ⟨gb + 1, 0, none⟩)), .k (.slice ba l ca), .k (.bool false), .k (.bool true), .k (.bool true), .k undef, .k undef, .k undef, .k undef, .k undef, .k (.bool true), .k (.bool true), .k undef, .k undef, .k undef, .k undef, .k undef, .k (.bool true), .k (.bool true), .k undef, .k undef, .k undef, .k undef, .k undef, .k undef, .k undef, .k undef, .k (.bool true)] (Old w3) (by kernel_rfl) (by kernel_rfl) rfl ((Old.refl _).drew) ?st ?_
     case st =>
      refine .c (stsz Tryz.underlying25 HG5.out) <| .c stpz <| .c (stfz 0 Tryz.underlying29 HT5k.out) <| .c (stKz old_R Tryz.func84 (fun wx hx => HEa.out wx (HOw.out.trans hx))) <| .c stpz <| .c stpz <| .c stnz <| .c stnz <| .c stnz <| .c stnz <| .c stnz <| .c stpz <| .c stpz <| .c stnz <| .c stnz <| .c stnz <| .c stnz <| .c stnz <| .c stpz <| .c stpz <| .c stnz <| .c stnz <| .c stnz <| .c stnz <| .c stnz <| .c stnz <| .c stnz <| .c stnz <| .c stpz .n
     intro t wx hR hk
     simp only [fill, Ent.val, List.set_cons_zero, List.set_cons_succ, List.drop_succ_cons, List.drop_zero, List.drop_nil]
     go_upto_region 6 with fail
     have HOn : Hid (Old W2 wx) := HO5.out.trans hR
     obtain ⟨z0, z1⟩ := HNc.out _ HOn.out
     have hcl := HCl.out _ (HO2.out.trans HOn.out)
     have q0 : (wx).cell? ⟨gb + 1 + 1, 0, none⟩ = some (.slice none 0 0) := cell_of_row _ _ 0 _ _ (0, 0) hcl
     have q1 : (wx).cell? ⟨gb + 1 + 1, 1, none⟩ = some (.slice none 0 0) := cell_of_row _ _ 1 _ _ (0, 0) hcl
     have f0 : (wx).frozen? ⟨gb + 1 + 1, 0, none⟩ = false := row_frozen hcl 0
     have f1 : (wx).frozen? ⟨gb + 1 + 1, 1, none⟩ = false := row_frozen hcl 1
     have HRh : Hid ((wx).heap[gb + 1 + 1]? = some (.cells #[.slice none 0 0, .slice none 0 0] 50 (0, 0))) := hcl
     clear hcl
     go_wp2_with fail
     exact bodyPost_ret (result_pair (b := gb + 1 + 1) rfl rfl rfl (load_two HRh.out Tryz.underlying50 info_claim)) rfl (givD_no (W' := wx) HNo.out Hgb.out (HW0.out.trans (HO2.out.trans HOn.out)))
    | true =>
     rw [ha] at HEa
     cases hb : elB P Q l B with
     | false =>
      rw [hb] at HEb
      clear ha hb
      refine wp_region_tabz 29 [.k (gv P Q G H a m cap), .k (.pointer (some ⟨gb + 1, 0, none⟩)), .k (.slice ba l ca), .k (.bool true), .k (.bool false), .k (.bool false), .k (gv P Q G H a m cap), .k (.pointer (some ⟨gb + 1, 2, none⟩)), .k (.slice bb l cb), .k (.bool false), .k (.bool true), .k (.bool true), .k (.bool true), .k undef, .k undef, .k undef, .k undef, .k undef, .k (.bool true), .k (.bool true), .k undef, .k undef, .k undef, .k undef, .k undef, .k undef, .k undef, .k undef, .k (.bool true)] (Old w3) (by kernel_rfl) (by kernel_rfl) rfl ((Old.refl _).drew) ?st ?_
      case st =>
       refine .c (stsz Tryz.underlying25 HG5.out) <| .c stpz <| .c (stfz 0 Tryz.underlying29 HT5k.out) <| .c (stKz old_R Tryz.func84 (fun wx hx => HEa.out wx (HOw.out.trans hx))) <| .c stpz <| .c stpz <| .c (stsz Tryz.underlying25 HG5.out) <| .c stpz <| .c (stfz 2 Tryz.underlying29 HT5k.out) <| .c (stKz old_R Tryz.func84 (fun wx hx => HEb.out wx (HOw.out.trans hx))) <| .c stpz <| .c stpz <| .c stpz <| .c stnz <| .c stnz <| .c stnz <| .c stnz <| .c stnz <| .c stpz <| .c stpz <| .c stnz <| .c stnz <| .c stnz <| .c stnz <| .c stnz <| .c stnz <| .c stnz <| .c stnz <| .c stpz .n
      intro t wx hR hk
      simp only [fill, Ent.val, List.set_cons_zero, List.set_cons_succ, List.drop_succ_cons, List.drop_zero, List.drop_nil]
      go_upto_region 6 with fail
      have HOn : Hid (Old W2 wx) := HO5.out.trans hR
      obtain ⟨z0, z1⟩ := HNc.out _ HOn.out
      have hcl := HCl.out _ (HO2.out.trans HOn.out)
      have q0 : (wx).cell? ⟨gb + 1 + 1, 0, none⟩ = some (.slice none 0 0) := cell_of_row _ _ 0 _ _ (0, 0) hcl
      have q1 : (wx).cell? ⟨gb + 1 + 1, 1, none⟩ = some (.slice none 0 0) := cell_of_row _ _ 1 _ _ (0, 0) hcl
      have f0 : (wx).frozen? ⟨gb + 1 + 1, 0, none⟩ = false := row_frozen hcl 0
      have f1 : (wx).frozen? ⟨gb + 1 + 1, 1, none⟩ = false := row_frozen hcl 1
      have HRh : Hid ((wx).heap[gb + 1 + 1]? = some (.cells #[.slice none 0 0, .slice none 0 0] 50 (0, 0))) := hcl
      clear hcl
      go_wp2_with fail
      exact bodyPost_ret (result_pair (b := gb + 1 + 1) rfl rfl rfl (load_two HRh.out Tryz.underlying50 info_claim)) rfl (givD_no (W' := wx) HNo.out Hgb.out (HW0.out.trans (HO2.out.trans HOn.out)))
     | true =>
      rw [hb] at HEb
      cases hp : elB P Q l Pp with
      | false =>
       rw [hp] at HEp
       clear ha hb hp
       refine wp_region_tabz 29 [.k (gv P Q G H a m cap), .k (.pointer (some ⟨gb + 1, 0, none⟩)), .k (.slice ba l ca), .k (.bool true), .k (.bool false), .k (.bool false), .k (gv P Q G H a m cap), .k (.pointer (some ⟨gb + 1, 2, none⟩)), .k (.slice bb l cb), .k (.bool true), .k (.bool false), .k (.bool false), .k (.bool false), .k (gv P Q G H a m cap), .k (.pointer (some ⟨gb + 1, 5, none⟩)), .k (.slice (some ⟨bp, op, none⟩) l cp), .k (.bool false), .k (.bool true), .k (.bool true), .k (.bool true), .k undef, .k undef, .k undef, .k undef, .k undef, .k undef, .k undef, .k undef, .k (.bool true)] (Old w3) (by kernel_rfl) (by kernel_rfl) rfl ((Old.refl _).drew) ?st ?_
       case st =>
        refine .c (stsz Tryz.underlying25 HG5.out) <| .c stpz <| .c (stfz 0 Tryz.underlying29 HT5k.out) <| .c (stKz old_R Tryz.func84 (fun wx hx => HEa.out wx (HOw.out.trans hx))) <| .c stpz <| .c stpz <| .c (stsz Tryz.underlying25 HG5.out) <| .c stpz <| .c (stfz 2 Tryz.underlying29 HT5k.out) <| .c (stKz old_R Tryz.func84 (fun wx hx => HEb.out wx (HOw.out.trans hx))) <| .c stpz <| .c stpz <| .c stpz <| .c (stsz Tryz.underlying25 HG5.out) <| .c stpz <| .c (stfz 5 Tryz.underlying29 HT5k.out) <| .c (stKz old_R Tryz.func84 (fun wx hx => HEp.out wx (HOw.out.trans hx))) <| .c stpz <| .c stpz <| .c stpz <| .c stnz <| .c stnz <| .c stnz <| .c stnz <| .c stnz <| .c stnz <| .c stnz <| .c stnz <| .c stpz .n
       intro t wx hR hk
       simp only [fill, Ent.val, List.set_cons_zero, List.set_cons_succ, List.drop_succ_cons, List.drop_zero, List.drop_nil]
       go_upto_region 6 with fail
       have HOn : Hid (Old W2 wx) := HO5.out.trans hR
       obtain ⟨z0, z1⟩ := HNc.out _ HOn.out
       have hcl := HCl.out _ (HO2.out.trans HOn.out)
       have q0 : (wx).cell? ⟨gb + 1 + 1, 0, none⟩ = some (.slice none 0 0) := cell_of_row _ _ 0 _ _ (0, 0) hcl
       have q1 : (wx).cell? ⟨gb + 1 + 1, 1, none⟩ = some (.slice none 0 0) := cell_of_row _ _ 1 _ _ (0, 0) hcl
       have f0 : (wx).frozen? ⟨gb + 1 + 1, 0, none⟩ = false := row_frozen hcl 0
       have f1 : (wx).frozen? ⟨gb + 1 + 1, 1, none⟩ = false := row_frozen hcl 1
       have HRh : Hid ((wx).heap[gb + 1 + 1]? = some (.cells #[.slice none 0 0, .slice none 0 0] 50 (0, 0))) := hcl
       clear hcl
       go_wp2_with fail
       exact bodyPost_ret (result_pair (b := gb + 1 + 1) rfl rfl rfl (load_two HRh.out Tryz.underlying50 info_claim)) rfl (givD_no (W' := wx) HNo.out Hgb.out (HW0.out.trans (HO2.out.trans HOn.out)))
      | true =>
       rw [hp] at HEp
       have hD : ¬ Pp 0 = D0 := Hcl0.out Hfit.out (eltB_iff.2 ⟨HB3.out.2.2, HB3.out.1, HB3.out.2.1, ha, hb, hp⟩)
       have hne : Hid (Value.bool (!(Pp 0 == D0)) = .bool true) := by unfold Hid; simp [hD]
       clear ha hb hp hD
       refine wp_region_tabz 29 [.k (gv P Q G H a m cap), .k (.pointer (some ⟨gb + 1, 0, none⟩)), .k (.slice ba l ca), .k (.bool true), .k (.bool false), .k (.bool false), .k (gv P Q G H a m cap), .k (.pointer (some ⟨gb + 1, 2, none⟩)), .k (.slice bb l cb), .k (.bool true), .k (.bool false), .k (.bool false), .k (.bool false), .k (gv P Q G H a m cap), .k (.pointer (some ⟨gb + 1, 5, none⟩)), .k (.slice (some ⟨bp, op, none⟩) l cp), .k (.bool true), .k (.bool false), .k (.bool false), .k (.bool false), .k (.pointer (some ⟨gb + 1, 5, none⟩)), .k (.slice (some ⟨bp, op, none⟩) l cp), .k (.pointer (some ⟨bp, op, none⟩)), .k (.int .u64 (Pp 0)), .k (gv P Q G H a m cap), .k (tk ba l ca X bb l cb Y Z (some ⟨bp, op, none⟩) l cp), .k (.int .u64 D0), .k (.bool true), .k (.bool true)] (Old w3) (by kernel_rfl) (by kernel_rfl) rfl ((Old.refl _).drew) ?st ?_
       case st =>
        refine .c (stsz Tryz.underlying25 HG5.out) <| .c stpz <| .c (stfz 0 Tryz.underlying29 HT5k.out) <| .c (stKz old_R Tryz.func84 (fun wx hx => HEa.out wx (HOw.out.trans hx))) <| .c stpz <| .c stpz <| .c (stsz Tryz.underlying25 HG5.out) <| .c stpz <| .c (stfz 2 Tryz.underlying29 HT5k.out) <| .c (stKz old_R Tryz.func84 (fun wx hx => HEb.out wx (HOw.out.trans hx))) <| .c stpz <| .c stpz <| .c stpz <| .c (stsz Tryz.underlying25 HG5.out) <| .c stpz <| .c (stfz 5 Tryz.underlying29 HT5k.out) <| .c (stKz old_R Tryz.func84 (fun wx hx => HEp.out wx (HOw.out.trans hx))) <| .c stpz <| .c stpz <| .c stpz <| .c stpz <| .c (stfz 5 Tryz.underlying29 HT5k.out) <| .c (stiz (n := l) (c := cp) (i := 0) h1n Tryz.underlying29) <| .c (stlz Tryz.underlying22 HP5.out) <| .c (stsz Tryz.underlying25 HG5.out) <| .c (stsz Tryz.underlying41 HT5k.out) <| .c (stKz old_R Tryz.func67 (fun wx hx => HBg0.out wx (HOw.out.trans hx))) <| .c (stvz (v' := .bool (!(Pp 0 == D0))) hne.out) <| .c stpz .n
       intro t wx hR hk
       simp only [fill, Ent.val, List.set_cons_zero, List.set_cons_succ, List.drop_succ_cons, List.drop_zero, List.drop_nil]
       go_upto_region 6 with fail
       have HOn : Hid (Old W2 wx) := HO5.out.trans hR
       obtain ⟨z0, z1⟩ := HNc.out _ HOn.out
       have hcl := HCl.out _ (HO2.out.trans HOn.out)
       have q0 : (wx).cell? ⟨gb + 1 + 1, 0, none⟩ = some (.slice none 0 0) := cell_of_row _ _ 0 _ _ (0, 0) hcl
       have q1 : (wx).cell? ⟨gb + 1 + 1, 1, none⟩ = some (.slice none 0 0) := cell_of_row _ _ 1 _ _ (0, 0) hcl
       have f0 : (wx).frozen? ⟨gb + 1 + 1, 0, none⟩ = false := row_frozen hcl 0
       have f1 : (wx).frozen? ⟨gb + 1 + 1, 1, none⟩ = false := row_frozen hcl 1
       have HRh : Hid ((wx).heap[gb + 1 + 1]? = some (.cells #[.slice none 0 0, .slice none 0 0] 50 (0, 0))) := hcl
       clear hcl
       go_wp2_with fail
       exact bodyPost_ret (result_pair (b := gb + 1 + 1) rfl rfl rfl (load_two HRh.out Tryz.underlying50 info_claim)) rfl (givD_no (W' := wx) HNo.out Hgb.out (HW0.out.trans (HO2.out.trans HOn.out)))
theorem rclaim8_any (P Q G H : Int) (a : Option Addr) (m cap : Nat) (y : Int) (bi : Option Addr) (l ci : Nat) (C : Nat -> Nat -> Int) (bo : Option Addr) (no co : Nat) (O : Nat -> Nat -> Int) (ba : Option Addr) (na ca : Nat) (A : Nat -> Int) (X : Int) (bb : Option Addr) (nb cb : Nat) (B : Nat -> Int) (Y Z : Int) (bp : Option Addr) (np cp : Nat) (Pp : Nat -> Int) (w : World) (hl : l <= 9223372036854775807) (hln : no <= 9223372036854775807) (hla : na <= 9223372036854775807) (hlb : nb <= 9223372036854775807) (hlp : np <= 9223372036854775807) (h4 : Four P Q G H) (hy : U64 y) (hX : U64 X) (hY : U64 Y) (hZ : U64 Z) (hC : BoxsIn w bi l C) (hO : BoxsIn w bo no O) (hA : FacsIn w ba na A) (hB : FacsIn w bb nb B) (hP : FacsIn w bp np Pp) :
  Calls Tryz.prog 29 #[gv P Q G H a m cap, .int .u64 y, .slice bi l ci, .slice bo no co, tk ba na ca X bb nb cb Y Z bp np cp] w (GivD w (clmB P Q G y l C no O na A nb B np Pp Y Z) (4 * l + 6) (tgtT P Q G X Y Z l A B Pp (fun j w => C j (2 * w)) (fun j w => C j (2 * w + 1))) (fun _ => 7 * l + 3) (bas8 l Pp G H y (fun j w => O j (2 * w)) (fun j w => O j (2 * w + 1)))) := by
 cases hc : clmB P Q G y l C no O na A nb B np Pp Y Z with
 | false =>
  have h := rclm8_no P Q G H a m cap y bi l ci C bo no co O ba na ca A X bb nb cb B Y Z bp np cp Pp w hl hln hla hlb hlp h4 hy hX hY hZ hC hO hA hB hP hc
  rwa [hc] at h
 | true =>
  have hc' := hc
  unfold clmB at hc'
  rw [Bool.and_eq_true_iff, Bool.and_eq_true_iff, decide_eq_true_eq] at hc'
  obtain ⟨hf, he, hD⟩ := hc'
  obtain ⟨⟨h1, h8⟩, e1, e2, e3, e4⟩ := fitB_iff.1 hf
  subst e1 e2 e3 e4
  exact rclm8_yes P Q G H a m cap y bi ci C bo co O ba ca A X bb cb B Y Z bp cp Pp _ w h1 h8 h4 hy hX hY hZ hC hO hA hB hP he hD
end
section
open Go Go.RowKit
theorem pack_two (F : Nat -> Int) (n : Nat) {u v : Int} (hu : F n = u) (hv : F (n + 1) = v) : packL F (n + 2) = packL F n ++ packL (two7 u v) 2 := by
 subst hu
 subst hv
 show (packL F n ++ bytesL (F n) 8) ++ bytesL (F (n + 1)) 8 = packL F n ++ (([] ++ bytesL (F n) 8) ++ bytesL (F (n + 1)) 8)
 simp only [List.nil_append, List.append_assoc]
theorem rflat8_any (b : Option Addr) (m c : Nat) (C : Nat -> Nat -> Int) (w : World) (mm : m <= 1000) (h : BoxsIn w b m C) :
  Calls Tryz.prog 131 #[.slice b m c] w (Ret w (.string (strOfNums (packL (flatF C) (6 * m))))) := by
 have HX : Hid (BoxsIn w b m C) := h
 have HNu : Hid (∀ bs u v wx, U64 u -> U64 v -> Nums wx w.heap.size (.slice (some ⟨bs, 0, none⟩) 2 2) 2 (two7 u v) -> Calls Tryz.prog 130 #[.slice (some ⟨bs, 0, none⟩) 2 2] wx (Ret wx (.string (strOfNums (packL (two7 u v) 2))))) := fun bs u v wx hu hv hN => by
  obtain ⟨_, _, e, _, hf⟩ := hN.facs (fun i _ => u64_two hu hv i)
  cases e
  exact rnumbers_any _ 2 2 _ wx (by omega) hf
 clear h
 have hadd : ∀ xs ys : List Int, strOfNums xs ++ strOfNums ys = strOfNums (xs ++ ys) := str_add
 have hsz : ∀ xs : List Int, (strOfNums xs).size = xs.length := strOfNums_size
 go_enter Tryz.func131, Tryz.ntmps131
 go_upto_region 3 with fail
 go_loopw [3, 4] (fun sv iv wx => ∃ i : Nat, iv = .int .i64 (i : Int) /\ i <= m /\ sv = .string (strOfNums (packL (flatF C) (6 * i))) /\ Hid (Old w wx)) (fun _ iv _ => m - (intOf iv).toNat)
 case atStart => exact ⟨0, rfl, Nat.zero_le _, rfl, Old.refl _⟩
 case round =>
  obtain ⟨i, rfl, hi, rfl, HO⟩ := hrel
  by_cases hlt : i < m
  · go_upto_region 6 with fail
   go_loopw [3, 5] (fun sv kv wx => ∃ k : Nat, kv = .int .i64 (k : Int) /\ k <= 3 /\ sv = .string (strOfNums (packL (flatF C) (6 * i + 2 * k))) /\ Hid (Old w wx)) (fun _ kv _ => 3 - (intOf kv).toNat)
   case atStart => exact ⟨0, rfl, Nat.zero_le _, rfl, HO⟩
   case round =>
    obtain ⟨k, rfl, hk, rfl, HO2⟩ := hrel
    by_cases hkl : k < 3
    · have k3 : (k : Int) < 3 := by omega
     rcases HX.out with h0 | ⟨bx, ox, hqx, _, hrx⟩
     · omega
     have HU : Hid (∀ wx, Old wr wx -> wx.cell? ⟨bx, ox + i * 6 + k * 2, none⟩ = some (.int .u64 (C i (2 * k)))) := fun wx ho => by
      have := ((HO2.out.trans ho)).cellOf (hrx i hlt (2 * k) (by omega)).1
      rwa [show ox + i * 6 + 2 * k = ox + i * 6 + k * 2 by omega] at this
     have HV : Hid (∀ wx, Old wr wx -> wx.cell? ⟨bx, ox + i * 6 + k * 2 + 1, none⟩ = some (.int .u64 (C i (2 * k + 1)))) := fun wx ho => by
      have := ((HO2.out.trans ho)).cellOf (hrx i hlt (2 * k + 1) (by omega)).1
      rwa [show ox + i * 6 + (2 * k + 1) = ox + i * 6 + k * 2 + 1 by omega] at this
     have HUu : Hid (U64 (C i (2 * k)) /\ U64 (C i (2 * k + 1))) := ⟨(hrx i hlt (2 * k) (by omega)).2, (hrx i hlt (2 * k + 1) (by omega)).2⟩
     have HPk : Hid (packL (flatF C) (6 * i + 2 * (k + 1)) = packL (flatF C) (6 * i + 2 * k) ++ packL (two7 (C i (2 * k)) (C i (2 * k + 1))) 2) := by
      unfold Hid
      rw [show 6 * i + 2 * (k + 1) = 6 * i + 2 * k + 2 by omega]
      exact pack_two _ _ (flat_at C i (2 * k) (by omega)) (by rw [show 6 * i + 2 * k + 1 = 6 * i + (2 * k + 1) by omega]; exact flat_at C i (2 * k + 1) (by omega))
     have hws : w.heap.size <= wr.heap.size := HO2.out.size
     clear hrx
     subst hqx
     generalize C i (2 * k) = xu at *
     generalize C i (2 * k + 1) = xv at *
     have zl := packL_len (flatF C) (6 * i + 2 * k)
     have z8 := packL_len (two7 xu xv) 2
     go_upto_region 8 with fail
     refine wp_region_tab 17 [.k (.string (strOfNums (packL (flatF C) (6 * i + 2 * k)))), .k (.slice (some ⟨bx, ox, none⟩) m c), .k (.int .i64 (i : Int)), .k (.int .i64 (k : Int)), .k (.pointer (some ⟨bx, ox + i * 6, none⟩)), .k (.pointer (some ⟨bx, ox + i * 6 + k * 2, none⟩)), .k (.pointer (some ⟨bx, ox + i * 6 + k * 2, none⟩)), .k (.int .u64 xu), .k (.slice (some ⟨bx, ox, none⟩) m c), .k (.int .i64 (i : Int)), .k (.int .i64 (k : Int)), .k (.pointer (some ⟨bx, ox + i * 6, none⟩)), .k (.pointer (some ⟨bx, ox + i * 6 + k * 2, none⟩)), .k (.pointer (some ⟨bx, ox + i * 6 + k * 2 + 1, none⟩)), .k (.int .u64 xv), two8 w.heap.size xu xv, .k (.string (strOfNums (packL (two7 xu xv) 2)))] (Old wr) (by kernel_rfl) (by kernel_rfl) rfl ((Old.refl _).drew) ?st ?_
     case st =>
      refine .c stp <| .c stp <| .c stp <| .c stp <| .c (stj (n := m) (c := c) 6 hlt Tryz.underlying26) <| .c (saj 2 hkl Tryz.underlying74) <| .c stp <| .c (stl Tryz.underlying22 HU.out) <| .c stp <| .c stp <| .c stp <| .c (stj (n := m) (c := c) 6 hlt Tryz.underlying26) <| .c (saj 2 hkl Tryz.underlying74) <| .c stp <| .c (stl Tryz.underlying22 HV.out) <| .c (stm (ob := fun _ => .cells #[.int .u64 xu, .int .u64 xv] 22) (v := fun s => .slice (some ⟨s, 0, none⟩) 2 2) old_R fun t wx hR _ => ⟨_, rfl, nums_new wx w.heap.size 2 [.int .u64 xu, .int .u64 xv] (two7 xu xv) (Nat.le_trans hws hR.size) (by omega) rfl⟩) <| .c (stC (args := fun t => #[t 15]) old_R Tryz.func130 fun t wx hR hd => ?_) .n
      obtain ⟨bs, e, hN⟩ := hd 15 (by kernel_rfl)
      rw [e] at hN ⊢
      exact (HNu.out bs xu xv wx HUu.out.1 HUu.out.2 hN).mono fun r w' ⟨h, k⟩ => ⟨_, h, k, rfl⟩
     intro t wx hR hk_1
     simp only [fill, Ent.val, two8, List.set_cons_zero, List.set_cons_succ, List.drop_succ_cons, List.drop_zero, List.drop_nil]
     have HOx : Hid (Old w wx) := HO2.out.trans hR
     have l1 : 8 * (6 * i + 2 * k) + 16 <= 9223372036854775807 := by omega
     have l2 : ¬ 9223372036854775807 < 8 * (6 * i + 2 * k) + 16 := by omega
     have l3 : 8 * (6 * i + 2 * k) <= 9223372036854775791 := by omega
     have l4 : ¬ 9223372036854775791 < 8 * (6 * i + 2 * k) := by omega
     clear hR hk_1 HU HV HO2
     go_wp2_with fail
     go_roundw
     case rel => exact ⟨k + 1, idx_next k, by omega, by rw [HPk.out], HOx⟩
     case measure => simp [intOf]; omega
    · have hk3 : k = 3 := by omega
     subst hk3
     go_wp2_with fail
     go_roundw
     case rel => exact ⟨i + 1, idx_next i, by omega, rfl, HO2⟩
     case measure => simp [intOf]; omega
  · have he : m = i := by omega
   subst he
   go_wp2_with fail
   go_ret
   exact ⟨rfl, HO.out⟩
end
section
open Go Go.RowKit
theorem run_append_full {P : Program} {w : World} (t ty : TypeId) (base : Nat) (e : TypeId) (i : TypeInfo) (z : Value) (size bytes : Nat) (ht : P.underlying t = some (.slice e)) (hi : P.info? e = some i) (hz : i.zero = some z)
  (hsize : i.size = size) (hby : i.bytes = bytes) (hzs : z.cells.size = size) (hsz : 0 < size)
  (b : Addr) (n : Nat) (xs : List Value) (hown : w.ownsRow base e size (.slice (some b) n n) n xs) (hlo : xs.length = n * size) (holds : ∀ j v, xs[j]? = some v -> w.cell? (b.add j) = some v)
  (ad : Addr) (m c : Nat) (news : List Value) (hl : news.length = m * size) (hnews : ∀ j u, news[j]? = some u -> w.cell? (ad.add j) = some u) (h1 : ∀ u ∈ news, u.oneCell' = true)
  (hm : 0 < m) (h63 : n + m <= maxLen) (hbytes : (n + m) * bytes <= 140737488355328) (hfit : Builtin.nextslicecap (n + m) n * bytes <= 281474976710656) (hbase : base <= w.heap.size) :
  ∃ g cap w', (Builtin.append_ #[t, t] ty #[.slice (some b) n n, .slice (some ad) m c]).run P w = .ok (.slice (some ⟨g, 0, none⟩) (n + m) cap) w' /\
   w'.ownsRow base e size (.slice (some ⟨g, 0, none⟩) (n + m) cap) (n + m) (xs ++ news) /\ Old w w' := by
 obtain ⟨g, cap, w', hr, h2, _, _, _⟩ := run_append_lies (P := P) (w := w) t ty base e i z size bytes ht hi hz hsize hby hzs hsz _ n xs hown ad m c news hl hnews h1 hm h63 hbytes hbase _ rfl
 have hr2 := run_append_grow (P := P) (w := w) t ty e i z ht hi hz b n n xs (by rw [hsize]; exact hlo) holds ad m c news (by rw [hsize]; exact hl) hnews (by omega) (by unfold maxLen at h63; omega) (by rw [hby]; exact hfit)
 rw [hr2] at hr
 simp only [Result.ok.injEq] at hr
 obtain ⟨e1, e2⟩ := hr
 refine ⟨g, cap, w', ?_, h2, ?_⟩
 · rw [hr2, e1, e2]
 · rw [<- e2]
  exact ((Old.refl w).drew).alloc _
variable {P : Program} {ops : List Oper} {L0 : List Value} {E : List Ent} {R : World -> Prop} {e : Ent}
theorem stA {dst : Option Tmp} {ty : TypeId} {pos : String} {after : Array Edge} {s x : Operand} {T el : TypeId} {i : TypeInfo} {z : Value} {size bytes : Nat} (n m : Nat) (hR : ∀ w w', R w -> Old w w' -> R w') (ht : P.underlying T = some (.slice el)) (hi : P.info? el = some i /\ i.zero = some z /\ i.size = size /\ i.bytes = bytes) (hzs : z.cells.size = size) (hsz : 0 < size)
  (hm : 0 < m) (h63 : n + m <= maxLen) (hbytes : (n + m) * bytes <= 140737488355328) (hfit : Builtin.nextslicecap (n + m) n * bytes <= 281474976710656) {vs vx : (Nat -> Value) -> Value}
  (h : ∀ (t : Nat -> Value) (wx : World), R wx -> (∀ k, needs ⟨dst, .call { callee := .builtin .append, args := #[s, x], argTypes := #[T, T] }, ty, pos, after, none⟩ k = true -> okAt E k (t k) wx) -> ∃ base b xs ad c news, vs t = .slice (some b) n n /\ wx.ownsRow base el size (.slice (some b) n n) n xs /\ xs.length = n * size /\ (∀ j v, xs[j]? = some v -> wx.cell? (b.add j) = some v) /\ vx t = .slice (some ad) m c /\ news.length = m * size /\ (∀ j u, news[j]? = some u -> wx.cell? (ad.add j) = some u) /\ (∀ u ∈ news, u.oneCell' = true) /\ base <= wx.heap.size /\
   ∀ g cap w', w'.ownsRow base el size (.slice (some ⟨g, 0, none⟩) (n + m) cap) (n + m) (xs ++ news) -> Old wx w' -> e.ok (.slice (some ⟨g, 0, none⟩) (n + m) cap) w')
  (hs : ∀ t, Act.eval ⟨(fill ops E t 0 L0).toArray, []⟩ s = vs t := by intro _; kernel_rfl) (hx : ∀ t, Act.eval ⟨(fill ops E t 0 L0).toArray, []⟩ x = vx t := by intro _; kernel_rfl) :
  StepT P ops L0 E R ⟨dst, .call { callee := .builtin .append, args := #[s, x], argTypes := #[T, T] }, ty, pos, after, none⟩ e := by
 refine ⟨fun t wx hRx hd => ?_⟩
 show PostT P E R e wx _
 obtain ⟨base, b, xs, ad, c, news, e1, k1, k2, k3, e2, k4, k5, k6, k7, hok⟩ := h t wx hRx hd
 obtain ⟨g, cap, w', hr, h2, ho⟩ := run_append_full (P := P) (w := wx) T ty base el i z size bytes ht hi.1 hi.2.1 hi.2.2.1 hi.2.2.2 hzs hsz b n xs k1 k2 k3 ad m c news k4 k5 k6 hm h63 hbytes hfit k7
 have hrun : (execOp (Act.eval ⟨(fill ops E t 0 L0).toArray, []⟩) ⟨dst, .call { callee := .builtin .append, args := #[s, x], argTypes := #[T, T] }, ty, pos, after, none⟩).run P wx = .ok (.value (.slice (some ⟨g, 0, none⟩) (n + m) cap)) w' := by
  unfold execOp
  simp only [resolve, invoke, builtin, Sem.run_bind, Sem.run_pure, Result.andThen_ok, List.map_toArray, List.map_cons, List.map_nil, hs t, hx t, e1, e2, hr]
 rw [hrun]
 exact ResT.old hR hRx ho (hok g cap w' h2 ho)
end
section
open Go Go.RowKit
theorem own_old8 {w w' : World} {base : Nat} {e : TypeId} {sz n : Nat} {v : Value} {xs : List Value} (h : w.ownsRow base e sz v n xs) (ho : Old w w') : w'.ownsRow base e sz v n xs := by
 refine ⟨h.1, ?_⟩
 rcases h.2 with hn | ⟨g, cap, cur, hv, hb, hg, rest⟩
 · exact Or.inl hn
 · exact Or.inr ⟨g, cap, cur, hv, hb, (ho.block g (Array.getElem?_eq_some_iff.1 hg).1).trans hg, rest⟩
def strE (base n : Nat) (S : Nat -> List Int) : Ent := .u (fun v w => ∃ b, v = .slice (some ⟨b, 0, none⟩) n n /\ w.ownsRow base 9 1 (.slice (some ⟨b, 0, none⟩) n n) n (cellsS S n)) fun _ _ _ ⟨b, e, h⟩ ho => ⟨b, e, own_old8 h ho⟩
def strG (base n : Nat) (S : Nat -> List Int) : Ent := .u (fun v w => ∃ b c, v = .slice (some ⟨b, 0, none⟩) n c /\ w.ownsRow base 9 1 (.slice (some ⟨b, 0, none⟩) n c) n (cellsS S n)) fun _ _ _ ⟨b, c, e, h⟩ ho => ⟨b, c, e, own_old8 h ho⟩
theorem str_cat {S S' S'' : Nat -> List Int} {n m : Nat} (h1 : ∀ i, i < n -> S'' i = S i) (h2 : ∀ i, i < m -> S'' (n + i) = S' i) : cellsS S n ++ cellsS S' m = cellsS S'' (n + m) := by
 unfold cellsS
 rw [List.range_add, List.map_append, List.map_map]
 congr 1
 · exact List.map_congr_left fun i hi => by rw [h1 i (List.mem_range.1 hi)]
 · exact List.map_congr_left fun i hi => by simp only [Function.comp]; rw [h2 i (List.mem_range.1 hi)]
theorem str_row {w : World} {base b n c : Nat} {S : Nat -> List Int} (h : w.ownsRow base 9 1 (.slice (some ⟨b, 0, none⟩) n c) n (cellsS S n)) : ∀ j v, (cellsS S n)[j]? = some v -> w.cell? ((⟨b, 0, none⟩ : Addr).add j) = some v := fun j v hv => by
 have hadd : (⟨b, 0, none⟩ : Addr).add j = ⟨b, j, none⟩ := by unfold Addr.add; split <;> simp_all
 have hj : j < n := by have := (List.getElem?_eq_some_iff.1 hv).1; simpa [cellsS] using this
 rw [hadd, World.ownsRow.cellAt h j (by omega), hv]
theorem str_app {w : World} {base base' n m sb sc : Nat} {S S' S'' : Nat -> List Int} {v vx : Value} (hv : ∃ b, v = .slice (some ⟨b, 0, none⟩) n n /\ w.ownsRow base 9 1 (.slice (some ⟨b, 0, none⟩) n n) n (cellsS S n)) (hx : vx = .slice (some ⟨sb, 0, none⟩) m sc) (hs : w.ownsRow base' 9 1 (.slice (some ⟨sb, 0, none⟩) m sc) m (cellsS S' m)) (hb : base <= w.heap.size) (h1 : ∀ i, i < n -> S'' i = S i) (h2 : ∀ i, i < m -> S'' (n + i) = S' i) :
  ∃ be b xs ad c news, v = .slice (some b) n n /\ w.ownsRow be 9 1 (.slice (some b) n n) n xs /\ xs.length = n * 1 /\ (∀ j v, xs[j]? = some v -> w.cell? (b.add j) = some v) /\ vx = .slice (some ad) m c /\ news.length = m * 1 /\ (∀ j u, news[j]? = some u -> w.cell? (ad.add j) = some u) /\ (∀ u ∈ news, u.oneCell' = true) /\ be <= w.heap.size /\
   ∀ g cap w', w'.ownsRow be 9 1 (.slice (some ⟨g, 0, none⟩) (n + m) cap) (n + m) (xs ++ news) -> Old w w' -> (strG base (n + m) S'').ok (.slice (some ⟨g, 0, none⟩) (n + m) cap) w' := by
 obtain ⟨b, e, h⟩ := hv
 refine ⟨base, ⟨b, 0, none⟩, cellsS S n, ⟨sb, 0, none⟩, sc, cellsS S' m, e, h, by simp [cellsS], str_row h, hx, by simp [cellsS], str_row hs, fun u hu => ?_, hb, fun g cap w' h3 _ => ⟨g, cap, rfl, ?_⟩⟩
 · simp only [cellsS, List.mem_map] at hu
  obtain ⟨i, _, rfl⟩ := hu
  rfl
 · rw [str_cat h1 h2] at h3
  exact h3
theorem str_in {w : World} {base b n c : Nat} {S : Nat -> List Int} (h : w.ownsRow base 9 1 (.slice (some ⟨b, 0, none⟩) n c) n (cellsS S n)) (hS : ∀ i, i < n -> Bts (S i)) : StrsIn w (some ⟨b, 0, none⟩) n S :=
 Or.inr ⟨b, 0, rfl, (World.ownsRow.lt h b rfl).2, fun i hi => ⟨by rw [Nat.zero_add, World.ownsRow.cellAt h i (by omega)]; simp [cellsS, hi], hS i hi⟩⟩
def comS (P Q G H y : Int) (l : Nat) (C : Nat -> Nat -> Int) (no : Nat) (O : Nat -> Nat -> Int) (na : Nat) (A : Nat -> Int) : Nat -> List Int
 | 0 => packL (fiv8 P Q G H y) 5
 | 1 => packL (flatF C) (6 * l)
 | 2 => packL (flatF O) (6 * no)
 | _ => packL A na
def morS (S : Nat -> List Int) (nb : Nat) (B : Nat -> Int) : Nat -> List Int := fun i => if i < 4 then S i else packL B nb
def namS (c : Int) (S : Nat -> List Int) : Nat -> List Int
 | 0 => [c]
 | i + 1 => S i
end
section
open Go Go.RowKit
theorem numL_le8 {label : List Int} {S : Nat -> List Int} {M : Nat} (h : ∀ i, (S i).length <= M) : ∀ n, (numL label S n).length <= 8 + label.length + n * (8 + M)
 | 0 => by show (bytesL _ 8 ++ label).length <= _; rw [List.length_append, bytesL_len]; omega
 | n + 1 => by
  show (numL label S n ++ (bytesL _ 8 ++ S n)).length <= _
  have h1 := numL_le8 (label := label) h n
  have h2 := h n
  rw [List.length_append, List.length_append, bytesL_len, Nat.add_mul]
  omega
theorem comS_bd (P Q G H y : Int) (l : Nat) (C : Nat -> Nat -> Int) (no : Nat) (O : Nat -> Nat -> Int) (na : Nat) (A : Nat -> Int) : ∀ i, Bts (comS P Q G H y l C no O na A i)
 | 0 => packL_bd _ _
 | 1 => packL_bd _ _
 | 2 => packL_bd _ _
 | _ + 3 => packL_bd _ _
theorem comS_len (P Q G H y : Int) {l : Nat} (C : Nat -> Nat -> Int) {no : Nat} (O : Nat -> Nat -> Int) {na : Nat} (A : Nat -> Int) (hl : l <= 80) (hn : no <= 80) (ha : na <= 400) : ∀ i, (comS P Q G H y l C no O na A i).length <= 4000
 | 0 => by show (packL _ _).length <= _; rw [packL_len]; omega
 | 1 => by show (packL _ _).length <= _; rw [packL_len]; omega
 | 2 => by show (packL _ _).length <= _; rw [packL_len]; omega
 | _ + 3 => by show (packL _ _).length <= _; rw [packL_len]; omega
theorem morS_bd {S : Nat -> List Int} (h : ∀ i, Bts (S i)) (nb : Nat) (B : Nat -> Int) : ∀ i, Bts (morS S nb B i) := fun i => by unfold morS; split; exact h i; exact packL_bd _ _
theorem morS_len {S : Nat -> List Int} (h : ∀ i, (S i).length <= 4000) {nb : Nat} (hb : nb <= 400) (B : Nat -> Int) : ∀ i, (morS S nb B i).length <= 4000 := fun i => by unfold morS; split; exact h i; rw [packL_len]; omega
theorem namS_bd {c : Int} (hc : 0 <= c /\ c <= 255) {S : Nat -> List Int} (h : ∀ i, Bts (S i)) : ∀ i, Bts (namS c S i)
 | 0 => fun x hx => by rcases List.mem_singleton.1 hx with rfl; omega
 | i + 1 => h i
theorem namS_len {c : Int} {S : Nat -> List Int} (h : ∀ i, (S i).length <= 4000) : ∀ i, (namS c S i).length <= 4000
 | 0 => by show ([c] : List Int).length <= _; simp
 | i + 1 => h i
theorem rchal8_any (P Q G H : Int) (a : Option Addr) (n cap : Nat) (label : List Int) (y : Int) (bi : Option Addr) (l ci : Nat) (C : Nat -> Nat -> Int) (bo : Option Addr) (no co : Nat) (O : Nat -> Nat -> Int) (ba : Option Addr) (na ca : Nat) (A : Nat -> Int) (bb : Option Addr) (nb cb : Nat) (B : Nat -> Int) (bp : Option Addr) (np cp : Nat) (bk : Option Addr) (nk ck : Nat) (bz : Option Addr) (nz cz : Nat) (w : World) (h4 : Four P Q G H) (hlb : Bts label) (hll : label.length <= 1000) (hy : U64 y) (ml : l <= 80) (mo : no <= 80) (ma : na <= 400) (mb : nb <= 400) (hC : BoxsIn w bi l C) (hO : BoxsIn w bo no O) (hA : FacsIn w ba na A) (hB : FacsIn w bb nb B) :
  Calls Tryz.prog 91 #[gv P Q G H a n cap, .string (strOfNums label), .int .u64 y, .slice bi l ci, .slice bo no co, .agg #[.slice ba na ca, .slice bb nb cb, .slice bp np cp, .slice bk nk ck, .slice bz nz cz]] w (Ret w (.tuple #[.int .u64 (numberI label (namS 120 (comS P Q G H y l C no O na A)) 5 Q), .int .u64 (numberI label (namS 121 (morS (comS P Q G H y l C no O na A) nb B)) 6 Q), .int .u64 (numberI label (namS 122 (morS (comS P Q G H y l C no O na A) nb B)) 6 Q)])) := by
 obtain ⟨i0, hi0, hz0, hz1, hz2⟩ := info_parts strinfo
 obtain ⟨S4, hS4⟩ : ∃ S4, S4 = comS P Q G H y l C no O na A := ⟨_, rfl⟩
 have HNf : Hid (∀ wx v base, Nums wx base v 5 (fiv8 P Q G H y) -> Calls Tryz.prog 130 #[v] wx (Ret wx (.string (strOfNums (S4 0))))) := fun wx v base hN => by
  obtain ⟨b, c, rfl, _, hf⟩ := hN.facs (fun i _ => by match i with | 0 => exact ⟨h4.p0, h4.p1⟩ | 1 => exact ⟨h4.q0, h4.q1⟩ | 2 => exact ⟨h4.g0, h4.g1⟩ | 3 => exact ⟨h4.h0, h4.h1⟩ | _ + 4 => exact hy)
  rw [hS4]
  exact rnumbers_any b 5 c _ wx (by omega) hf
 have HFi : Hid (∀ wx, Old w wx -> Calls Tryz.prog 131 #[.slice bi l ci] wx (Ret wx (.string (strOfNums (S4 1))))) := fun wx ho => by rw [hS4]; exact rflat8_any bi l ci C wx (by omega) (hC.old ho)
 have HFo : Hid (∀ wx, Old w wx -> Calls Tryz.prog 131 #[.slice bo no co] wx (Ret wx (.string (strOfNums (S4 2))))) := fun wx ho => by rw [hS4]; exact rflat8_any bo no co O wx (by omega) (hO.old ho)
 have HNa : Hid (∀ wx, Old w wx -> Calls Tryz.prog 130 #[.slice ba na ca] wx (Ret wx (.string (strOfNums (S4 3))))) := fun wx ho => by rw [hS4]; exact rnumbers_any ba na ca A wx (by omega) (hA.old ho)
 have HNb : Hid (∀ wx, Old w wx -> Calls Tryz.prog 130 #[.slice bb nb cb] wx (Ret wx (.string (strOfNums (packL B nb))))) := fun wx ho => rnumbers_any bb nb cb B wx (by omega) (hB.old ho)
 have HSb : ∀ i, Bts (S4 i) := fun i => by rw [hS4]; exact comS_bd _ _ _ _ _ _ _ _ _ _ _ i
 have HSl : ∀ i, (S4 i).length <= 4000 := fun i => by rw [hS4]; exact comS_len P Q G H y C O A ml mo ma i
 rw [<- hS4]
 clear hS4
 obtain ⟨S5, hS5⟩ : ∃ S5, S5 = morS S4 nb B := ⟨_, rfl⟩
 have HS5 : Hid (S5 = morS S4 nb B) := hS5
 have HTb : ∀ i, Bts (S5 i) := fun i => by rw [hS5]; exact morS_bd HSb nb B i
 have HTl : ∀ i, (S5 i).length <= 4000 := fun i => by rw [hS5]; exact morS_len HSl mb B i
 rw [<- hS5]
 clear hS5
 have HNum : Hid (∀ (c : Int) (S : Nat -> List Int) (n : Nat) wx b base cap, (0 <= c /\ c <= 255) -> (∀ i, Bts (S i)) -> (∀ i, (S i).length <= 4000) -> n <= 6 -> wx.ownsRow base 9 1 (.slice (some ⟨b, 0, none⟩) n cap) n (cellsS (namS c S) n) -> Calls Tryz.prog 132 #[.string (strOfNums label), .slice (some ⟨b, 0, none⟩) n cap, .int .u64 Q] wx (Ret wx (.int .u64 (numberI label (namS c S) n Q)))) := fun c S n wx b base cap hc hb hl hn ho => number_any label _ n cap _ Q wx hlb (str_in ho fun i _ => namS_bd hc hb i) (by omega) (by
  have h := numL_le8 (label := label) (namS_len (c := c) hl) n
  have : n * (8 + 4000) <= 6 * 4008 := Nat.mul_le_mul_right _ hn
  omega) h4.q0 h4.q1
 have HNx : Hid (∀ wx b base cap, wx.ownsRow base 9 1 (.slice (some ⟨b, 0, none⟩) 5 cap) 5 (cellsS (namS 120 S4) 5) -> Calls Tryz.prog 132 #[.string (strOfNums label), .slice (some ⟨b, 0, none⟩) 5 cap, .int .u64 Q] wx (Ret wx (.int .u64 (numberI label (namS 120 S4) 5 Q)))) := fun wx b base cap h => HNum.out 120 S4 5 wx b base cap (by omega) HSb HSl (by omega) h
 have HNy : Hid (∀ (c : Int) wx b base cap, (0 <= c /\ c <= 255) -> wx.ownsRow base 9 1 (.slice (some ⟨b, 0, none⟩) 6 cap) 6 (cellsS (namS c S5) 6) -> Calls Tryz.prog 132 #[.string (strOfNums label), .slice (some ⟨b, 0, none⟩) 6 cap, .int .u64 Q] wx (Ret wx (.int .u64 (numberI label (namS c S5) 6 Q)))) := fun c wx b base cap hc h => HNum.out c S5 6 wx b base cap hc HTb HTl (by omega) h
 generalize numberI label (namS 120 S4) 5 Q = X at *
 have HNy1 : Hid (∀ wx b base cap, wx.ownsRow base 9 1 (.slice (some ⟨b, 0, none⟩) 6 cap) 6 (cellsS (namS 121 S5) 6) -> Calls Tryz.prog 132 #[.string (strOfNums label), .slice (some ⟨b, 0, none⟩) 6 cap, .int .u64 Q] wx (Ret wx (.int .u64 (numberI label (namS 121 S5) 6 Q)))) := fun wx b base cap h => HNy.out 121 wx b base cap (by omega) h
 have HNy2 : Hid (∀ wx b base cap, wx.ownsRow base 9 1 (.slice (some ⟨b, 0, none⟩) 6 cap) 6 (cellsS (namS 122 S5) 6) -> Calls Tryz.prog 132 #[.string (strOfNums label), .slice (some ⟨b, 0, none⟩) 6 cap, .int .u64 Q] wx (Ret wx (.int .u64 (numberI label (namS 122 S5) 6 Q)))) := fun wx b base cap h => HNy.out 122 wx b base cap (by omega) h
 clear HNy HNum
 generalize numberI label (namS 121 S5) 6 Q = Y at *
 generalize numberI label (namS 122 S5) 6 Q = Z at *
 clear HSb HSl HTb HTl hC hO hA hB hlb hll h4 hy
 have HZ := lain2 w (gc P Q G H a n cap) #[.slice ba na ca, .slice bb nb cb, .slice bp np cp, .slice bk nk ck, .slice bz nz cz] 25 57
 have HG0 := fun w' ho => (HZ.then (W' := w') ho).row 0 (by simp)
 have HT0 := fun w' ho => (HZ.then (W' := w') ho).row 1 (by simp)
 have HW0 : Hid (Old w ((w.alloc (.cells (gc P Q G H a n cap) 25)).alloc (.cells #[.slice ba na ca, .slice bb nb cb, .slice bp np cp, .slice bk nk ck, .slice bz nz cz] 57))) := HZ.old
 clear HZ
 go_enter Tryz.func91, Tryz.ntmps91
 go_upto_region 1 with fail
 generalize ((w.alloc (.cells (gc P Q G H a n cap) 25)).alloc (.cells #[.slice ba na ca, .slice bb nb cb, .slice bp np cp, .slice bk nk ck, .slice bz nz cz] 57)) = W at *
 have HG : Hid (∀ wx, Old W wx -> wx.heap[w.heap.size]? = some (.cells (gc P Q G H a n cap) 25 (0, 0))) := HG0
 have HT : Hid (∀ wx, Old W wx -> wx.heap[w.heap.size + 1]? = some (.cells #[.slice ba na ca, .slice bb nb cb, .slice bp np cp, .slice bk nk ck, .slice bz nz cz] 57 (0, 0))) := HT0
 clear HG0 HT0
 generalize w.heap.size = gb at *
 refine wp_region_tab 19 [.k (.pointer (some ⟨gb, 0, none⟩)), .k (.int .u64 P), .k (.pointer (some ⟨gb, 1, none⟩)), .k (.int .u64 Q), .k (.pointer (some ⟨gb, 2, none⟩)), .k (.int .u64 G), .k (.pointer (some ⟨gb, 3, none⟩)), .k (.int .u64 H), .k (.int .u64 y), numL8 W.heap.size 5 (fiv8 P Q G H y), .k (.string (strOfNums (S4 0))), .k (.slice bi l ci), .k (.string (strOfNums (S4 1))), .k (.slice bo no co), .k (.string (strOfNums (S4 2))), .k (.pointer (some ⟨gb + 1, 0, none⟩)), .k (.slice ba na ca), .k (.string (strOfNums (S4 3))), strE W.heap.size 4 S4] (Old W) (by kernel_rfl) (by kernel_rfl) rfl ((Old.refl _).drew) ?st ?_
 case st =>
  refine .c stp <| .c (stf 0 Tryz.underlying22 HG.out) <| .c stp <| .c (stf 1 Tryz.underlying22 HG.out) <| .c stp <| .c (stf 2 Tryz.underlying22 HG.out) <| .c stp <| .c (stf 3 Tryz.underlying22 HG.out) <| .c stp <| .c (stm (ob := fun _ => .cells #[.int .u64 P, .int .u64 Q, .int .u64 G, .int .u64 H, .int .u64 y] 22) (v := fun s => .slice (some ⟨s, 0, none⟩) 5 5) old_R fun t wx hR _ => nums_new wx W.heap.size 5 [.int .u64 P, .int .u64 Q, .int .u64 G, .int .u64 H, .int .u64 y] (fiv8 P Q G H y) hR.size (by omega) rfl) <| .c (stC (args := fun t => #[t 9]) old_R Tryz.func130 fun t wx hR hd => ?_) <| .c stp <| .c (stK old_R Tryz.func131 (fun wx hx => HFi.out wx (HW0.out.trans hx))) <| .c stp <| .c (stK old_R Tryz.func131 (fun wx hx => HFo.out wx (HW0.out.trans hx))) <| .c stp <| .c (stf 0 Tryz.underlying29 HT.out) <| .c (stK old_R Tryz.func130 (fun wx hx => HNa.out wx (HW0.out.trans hx))) <| .c (stm (ob := fun _ => .cells #[.string (strOfNums (S4 0)), .string (strOfNums (S4 1)), .string (strOfNums (S4 2)), .string (strOfNums (S4 3))] 9) (v := fun s => .slice (some ⟨s, 0, none⟩) 4 4) old_R fun t wx hR _ => ⟨_, rfl, World.ownsRow_lit wx #[.string (strOfNums (S4 0)), .string (strOfNums (S4 1)), .string (strOfNums (S4 2)), .string (strOfNums (S4 3))] 4 hR.size (by unfold maxLen; omega) rfl⟩) .n
  exact (HNf.out _ _ _ (hd 9 (by kernel_rfl))).mono fun r w' ⟨h, k⟩ => ⟨_, h, k, rfl⟩
 intro t wx hR hk
 simp only [fill, Ent.val, numL8, strE, List.set_cons_zero, List.set_cons_succ, List.drop_succ_cons, List.drop_zero, List.drop_nil]
 obtain ⟨cm, ecm, hcm⟩ : ∃ b, t 18 = .slice (some ⟨b, 0, none⟩) 4 4 /\ wx.ownsRow W.heap.size 9 1 (.slice (some ⟨b, 0, none⟩) 4 4) 4 (cellsS S4 4) := hk 18 (by omega)
 rw [ecm]
 go_upto_region 2 with fail
 have HO2 : Hid (Old W wx) := hR
 have HCm : Hid (∀ wy, Old wx wy -> wy.ownsRow W.heap.size 9 1 (.slice (some ⟨cm, 0, none⟩) 4 4) 4 (cellsS S4 4)) := fun wy ho => own_old8 hcm ho
 have HSi := (show Hid (_ /\ _ /\ _ /\ _) from ⟨hi0, hz0, hz1, hz2⟩)
 clear hR hk ecm hcm HNf HFi HFo HNa
 clear hi0 hz0 hz1 hz2
 generalize wx = W2 at *
 have HG2 : Hid (∀ wx, Old W2 wx -> wx.heap[gb]? = some (.cells (gc P Q G H a n cap) 25 (0, 0))) := fun wx ho => HG.out _ (HO2.out.trans ho)
 have HT2 : Hid (∀ wx, Old W2 wx -> wx.heap[gb + 1]? = some (.cells #[.slice ba na ca, .slice bb nb cb, .slice bp np cp, .slice bk nk ck, .slice bz nz cz] 57 (0, 0))) := fun wx ho => HT.out _ (HO2.out.trans ho)
 refine wp_region_tab 7 [strE W2.heap.size 0 S4, .k (.slice (some ⟨cm, 0, none⟩) 4 4), strG W2.heap.size (0 + 4) S4, .k (.pointer (some ⟨gb + 1, 1, none⟩)), .k (.slice bb nb cb), .k (.string (strOfNums (packL B nb))), strE W2.heap.size 1 (fun _ => packL B nb)] (Old W2) (by kernel_rfl) (by kernel_rfl) rfl ((Old.refl _).drew) ?st ?_
 case st =>
  refine .c (stm (ob := fun _ => .cells #[] 9) (v := fun s => .slice (some ⟨s, 0, none⟩) 0 0) old_R fun t wx hR _ => ⟨_, rfl, World.ownsRow_lit wx #[] 0 hR.size (by unfold maxLen; omega) rfl⟩) <| .c stp <| .c (stA 0 4 (vs := fun t => t 0) (vx := fun t => .slice (some ⟨cm, 0, none⟩) 4 4) old_R Tryz.underlying143 HSi.out rfl (by decide) (by decide) (by decide) (by decide) (by decide) fun t wx hR hd => str_app (base := W2.heap.size) (hd 0 (by kernel_rfl)) rfl (HCm.out wx hR) hR.size (fun i hi => by omega) (fun i hi => by rw [Nat.zero_add])) <| .c stp <| .c (stf 1 Tryz.underlying29 HT2.out) <| .c (stK old_R Tryz.func130 (fun wx hx => HNb.out wx ((HW0.out.trans HO2.out).trans hx))) <| .c (stm (ob := fun _ => .cells #[.string (strOfNums (packL B nb))] 9) (v := fun s => .slice (some ⟨s, 0, none⟩) 1 1) old_R fun t wx hR _ => ⟨_, rfl, World.ownsRow_lit wx #[.string (strOfNums (packL B nb))] 1 hR.size (by unfold maxLen; omega) rfl⟩) .n
 intro t_1 wy hR hk
 simp only [fill, Ent.val, strG, strE, List.set_cons_zero, List.set_cons_succ, List.drop_succ_cons, List.drop_zero, List.drop_nil]
 obtain ⟨g2, c2, e2, h2⟩ : ∃ b c, t_1 2 = .slice (some ⟨b, 0, none⟩) 4 c /\ wy.ownsRow W2.heap.size 9 1 (.slice (some ⟨b, 0, none⟩) 4 c) 4 (cellsS S4 4) := hk 2 (by omega)
 obtain ⟨l2, e6, h6⟩ : ∃ b, t_1 6 = .slice (some ⟨b, 0, none⟩) 1 1 /\ wy.ownsRow W2.heap.size 9 1 (.slice (some ⟨b, 0, none⟩) 1 1) 1 (cellsS (fun _ => packL B nb) 1) := hk 6 (by omega)
 rw [e2, e6]
 have HOy : Hid (Old W2 wy) := hR
 have hyz : W2.heap.size <= wy.heap.size := hR.size
 obtain ⟨hi0, hz0, hz1, hz2⟩ := HSi.out
 clear hk hR e2 e6
 go_wp2_with (at_builtin; refine wpList_append_lies _ rfl _ _ 143 rfl W2.heap.size 9 i0 _ 1 16 Tryz.underlying143 hi0 hz0 hz1 hz2 rfl (by decide) _ _ _ rfl h2 ⟨l2, 0, none⟩ 1 1 (cellsS (fun _ => packL B nb) 1) rfl rfl ?c1 ?c2 (by decide) ?c3 ?c4 hyz _ rfl ?_)
 case c1 => exact str_row h6
 case c2 => intro u hu; simp [cellsS] at hu; rcases hu with rfl; rfl
 case c3 => unfold maxLen; omega
 case c4 => omega
 intro g3 c3 w3 hown3 hgrow3 hat3 _
 have HM3 : Hid (w3.ownsRow W2.heap.size 9 1 (.slice (some ⟨g3, 0, none⟩) 5 c3) 5 (cellsS S5 5)) := by
  have h := str_cat (S := S4) (S' := fun _ => packL B nb) (S'' := S5) (n := 4) (m := 1) (fun i hi => by rw [HS5.out]; unfold morS; rw [if_pos hi]) (fun i hi => by rw [HS5.out]; unfold morS; rw [if_neg (by omega)])
  rw [h] at hown3
  exact hown3
 have HO3 : Hid (Old W2 w3) := HOy.out.grown hgrow3 fun q hq => (World.ownsRow.lt h2 q hq).1
 clear hown3 hgrow3 hat3 h2 h6 hyz HOy hi0 hz0 hz1 hz2 HNb
 go_upto_region 3 with fail
 have HC3 : Hid (∀ wx, Old w3 wx -> wx.ownsRow W.heap.size 9 1 (.slice (some ⟨cm, 0, none⟩) 4 4) 4 (cellsS S4 4)) := fun wx ho => HCm.out wx (HO3.out.trans ho)
 have HO30 : Hid (Old W w3) := HO2.out.trans HO3.out
 clear HCm HG2 HT2 HO3 HS5 HT
 have HGk3 : Hid (∀ wx, Old w3 wx -> wx.heap[gb]? = some (.cells (gc P Q G H a n cap) 25 (0, 0))) := fun wx ho => HG.out _ (HO30.out.trans ho)
 refine wp_region_tab 6 [.k (.string (strOfNums label)), strE w3.heap.size 1 (fun _ => [120]), .k (.slice (some ⟨cm, 0, none⟩) 4 4), strG w3.heap.size (1 + 4) (namS 120 S4), .k (.pointer (some ⟨gb, 1, none⟩)), .k (.int .u64 Q)] (Old w3) (by kernel_rfl) (by kernel_rfl) rfl ((Old.refl _).drew) ?st ?_
 case st =>
  refine .c stp <| .c (stm (ob := fun _ => .cells #[.string (strOfNums [120])] 9) (v := fun s => .slice (some ⟨s, 0, none⟩) 1 1) old_R fun t wx hR _ => ⟨_, rfl, World.ownsRow_lit wx #[.string (strOfNums [120])] 1 hR.size (by unfold maxLen; omega) rfl⟩) <| .c stp <| .c (stA 1 4 (vs := fun t => t 1) (vx := fun t => .slice (some ⟨cm, 0, none⟩) 4 4) old_R Tryz.underlying143 HSi.out rfl (by decide) (by decide) (by decide) (by decide) (by decide) fun t wx hR hd => str_app (base := w3.heap.size) (hd 1 (by kernel_rfl)) rfl (HC3.out wx hR) hR.size (fun i hi => by rw [show i = 0 by omega]; rfl) (fun i hi => by rw [Nat.add_comm 1 i]; rfl)) <| .c stp <| .c (stf 1 Tryz.underlying22 HGk3.out) .n
 intro tk3 wy hR hk
 simp only [fill, Ent.val, strG, strE, List.set_cons_zero, List.set_cons_succ, List.drop_succ_cons, List.drop_zero, List.drop_nil]
 obtain ⟨bq3, cq3, eq3, hq3⟩ : ∃ b c, tk3 3 = .slice (some ⟨b, 0, none⟩) 5 c /\ wy.ownsRow w3.heap.size 9 1 (.slice (some ⟨b, 0, none⟩) 5 c) 5 (cellsS (namS 120 S4) 5) := hk 3 (by omega)
 rw [eq3]
 have HOq : Hid (Old w3 wy) := hR
 clear hk hR eq3 HGk3
 go_upto_region 4 with (go_at_call 132; refine (HNx.out _ _ _ _ hq3).mono ?_; rintro e w4 ⟨rfl, oq⟩)
 have HO40 : Hid (Old W w4) := (HO30.out.trans HOq.out).trans oq
 have HM4 : Hid (w4.ownsRow W2.heap.size 9 1 (.slice (some ⟨g3, 0, none⟩) 5 c3) 5 (cellsS S5 5)) := own_old8 HM3.out (HOq.out.trans oq)
 clear oq HOq hq3 HM3 HO30 HNx
 clear HC3
 have HGk4 : Hid (∀ wx, Old w4 wx -> wx.heap[gb]? = some (.cells (gc P Q G H a n cap) 25 (0, 0))) := fun wx ho => HG.out _ (HO40.out.trans ho)
 refine wp_region_tab 6 [.k (.string (strOfNums label)), strE w4.heap.size 1 (fun _ => [121]), .k (.slice (some ⟨g3, 0, none⟩) 5 c3), strG w4.heap.size (1 + 5) (namS 121 S5), .k (.pointer (some ⟨gb, 1, none⟩)), .k (.int .u64 Q)] (Old w4) (by kernel_rfl) (by kernel_rfl) rfl ((Old.refl _).drew) ?st ?_
 case st =>
  refine .c stp <| .c (stm (ob := fun _ => .cells #[.string (strOfNums [121])] 9) (v := fun s => .slice (some ⟨s, 0, none⟩) 1 1) old_R fun t wx hR _ => ⟨_, rfl, World.ownsRow_lit wx #[.string (strOfNums [121])] 1 hR.size (by unfold maxLen; omega) rfl⟩) <| .c stp <| .c (stA 1 5 (vs := fun t => t 1) (vx := fun t => .slice (some ⟨g3, 0, none⟩) 5 c3) old_R Tryz.underlying143 HSi.out rfl (by decide) (by decide) (by decide) (by decide) (by decide) fun t wx hR hd => str_app (base := w4.heap.size) (hd 1 (by kernel_rfl)) rfl (own_old8 HM4.out hR) hR.size (fun i hi => by rw [show i = 0 by omega]; rfl) (fun i hi => by rw [Nat.add_comm 1 i]; rfl)) <| .c stp <| .c (stf 1 Tryz.underlying22 HGk4.out) .n
 intro tk4 wy hR hk
 simp only [fill, Ent.val, strG, strE, List.set_cons_zero, List.set_cons_succ, List.drop_succ_cons, List.drop_zero, List.drop_nil]
 obtain ⟨bq4, cq4, eq4, hq4⟩ : ∃ b c, tk4 3 = .slice (some ⟨b, 0, none⟩) 6 c /\ wy.ownsRow w4.heap.size 9 1 (.slice (some ⟨b, 0, none⟩) 6 c) 6 (cellsS (namS 121 S5) 6) := hk 3 (by omega)
 rw [eq4]
 have HOq : Hid (Old w4 wy) := hR
 clear hk hR eq4 HGk4
 go_upto_region 5 with (go_at_call 132; refine (HNy1.out _ _ _ _ hq4).mono ?_; rintro e w5 ⟨rfl, oq⟩)
 have HO50 : Hid (Old W w5) := (HO40.out.trans HOq.out).trans oq
 have HM5 : Hid (w5.ownsRow W2.heap.size 9 1 (.slice (some ⟨g3, 0, none⟩) 5 c3) 5 (cellsS S5 5)) := own_old8 HM4.out (HOq.out.trans oq)
 clear oq HOq hq4 HM4 HO40 HNy1
 have HGk5 : Hid (∀ wx, Old w5 wx -> wx.heap[gb]? = some (.cells (gc P Q G H a n cap) 25 (0, 0))) := fun wx ho => HG.out _ (HO50.out.trans ho)
 refine wp_region_tab 6 [.k (.string (strOfNums label)), strE w5.heap.size 1 (fun _ => [122]), .k (.slice (some ⟨g3, 0, none⟩) 5 c3), strG w5.heap.size (1 + 5) (namS 122 S5), .k (.pointer (some ⟨gb, 1, none⟩)), .k (.int .u64 Q)] (Old w5) (by kernel_rfl) (by kernel_rfl) rfl ((Old.refl _).drew) ?st ?_
 case st =>
  refine .c stp <| .c (stm (ob := fun _ => .cells #[.string (strOfNums [122])] 9) (v := fun s => .slice (some ⟨s, 0, none⟩) 1 1) old_R fun t wx hR _ => ⟨_, rfl, World.ownsRow_lit wx #[.string (strOfNums [122])] 1 hR.size (by unfold maxLen; omega) rfl⟩) <| .c stp <| .c (stA 1 5 (vs := fun t => t 1) (vx := fun t => .slice (some ⟨g3, 0, none⟩) 5 c3) old_R Tryz.underlying143 HSi.out rfl (by decide) (by decide) (by decide) (by decide) (by decide) fun t wx hR hd => str_app (base := w5.heap.size) (hd 1 (by kernel_rfl)) rfl (own_old8 HM5.out hR) hR.size (fun i hi => by rw [show i = 0 by omega]; rfl) (fun i hi => by rw [Nat.add_comm 1 i]; rfl)) <| .c stp <| .c (stf 1 Tryz.underlying22 HGk5.out) .n
 intro tk5 wy hR hk
 simp only [fill, Ent.val, strG, strE, List.set_cons_zero, List.set_cons_succ, List.drop_succ_cons, List.drop_zero, List.drop_nil]
 obtain ⟨bq5, cq5, eq5, hq5⟩ : ∃ b c, tk5 3 = .slice (some ⟨b, 0, none⟩) 6 c /\ wy.ownsRow w5.heap.size 9 1 (.slice (some ⟨b, 0, none⟩) 6 c) 6 (cellsS (namS 122 S5) 6) := hk 3 (by omega)
 rw [eq5]
 have HOq : Hid (Old w5 wy) := hR
 clear hk hR eq5 HGk5
 go_upto_region 6 with (go_at_call 132; refine (HNy2.out _ _ _ _ hq5).mono ?_; rintro e w6 ⟨rfl, oq⟩)
 have HO60 : Hid (Old W w6) := (HO50.out.trans HOq.out).trans oq
 have HM6 : Hid (w6.ownsRow W2.heap.size 9 1 (.slice (some ⟨g3, 0, none⟩) 5 c3) 5 (cellsS S5 5)) := own_old8 HM5.out (HOq.out.trans oq)
 clear oq HOq hq5 HM5 HO50 HNy2
 go_wp2_with fail
 go_ret3
 exact ⟨rfl, HW0.out.trans HO60.out⟩
end
section
open Go Go.RowKit
theorem chx8_eq (label : List Int) (P Q G H y : Int) (l : Nat) (C : Nat -> Nat -> Int) (no : Nat) (O : Nat -> Nat -> Int) (n : Nat) (A : Nat -> Int) : numberI label (namS 120 (comS P Q G H y l C no O n A)) 5 Q = chX label Q (knwS P Q G H y l C no O) n A := by
 unfold chX
 exact number_congr fun i hi => by
  match i, hi with
  | 0, _ => rfl
  | 1, _ => rfl
  | 2, _ => rfl
  | 3, _ => rfl
  | 4, _ => rfl
theorem chyz8_eq (c : Int) (label : List Int) (P Q G H y : Int) (l : Nat) (C : Nat -> Nat -> Int) (no : Nat) (O : Nat -> Nat -> Int) (n : Nat) (A B : Nat -> Int) : numberI label (namS c (morS (comS P Q G H y l C no O n A) n B)) 6 Q = chYZ c label Q (knwS P Q G H y l C no O) n A B := by
 unfold chYZ
 exact number_congr fun i hi => by
  match i, hi with
  | 0, _ => rfl
  | 1, _ => rfl
  | 2, _ => rfl
  | 3, _ => rfl
  | 4, _ => rfl
  | 5, _ => rfl
end
end Go.Proofs.YtlnmjbbpenhdbaaGreat
