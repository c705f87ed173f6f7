/-
  The document's Claim (layer 8).
  The document's Alike, of claims that are the same (layer 7).
  ShuffleClaims' walk (layer 8).
  A list of rows that came in, opened: what its reading says of memory.
-/
import Derived.Test.YtlnmjbbpenhdbaaGreatKc25
import Derived.Test.YtlnmjbbpenhdbaaGreatKc06
import Derived.Test.YtlnmjbbpenhdbaaGreatKc23
import Derived.Test.YtlnmjbbpenhdbaaGreatKc05
import Derived.Test.YtlnmjbbpenhdbaaGreatKc24
import Derived.Test.YtlnmjbbpenhdbaaGreatKc19
import Derived.Test.YtlnmjbbpenhdbaaGreatKc01
import Derived.Deep.Slices
import Derived.Deep.Strs
import Derived.OpenShut
namespace Go.Proofs.YtlnmjbbpenhdbaaGreat
open Go Go.RowKit
set_option linter.unusedSimpArgs false
set_option linter.unusedVariables false

set_option maxRecDepth 100000 in
set_option maxHeartbeats 32000000 in
theorem rclm8_no (P Q G H : Int) (a : Option Addr) (m cap : Nat) (y : Int) (bi : Option Addr) (l ci : Nat) (C : Nat → Nat → Int) (bo : Option Addr) (no co : Nat) (O : Nat → Nat → Int) (ba : Option Addr) (na ca : Nat) (A : Nat → Int) (X : Int) (bb : Option Addr) (nb cb : Nat) (B : Nat → Int) (Y Z : Int) (bp : Option Addr) (np cp : Nat) (Pp : Nat → Int) (w : World) (hl : l ≤ 9223372036854775807) (hln : no ≤ 9223372036854775807) (hla : na ≤ 9223372036854775807) (hlb : nb ≤ 9223372036854775807) (hlp : np ≤ 9223372036854775807) (h4 : Four P Q G H) (hy : U64 y) (hX : U64 X) (hY : U64 Y) (hZ : U64 Z) (hC : BoxsIn w bi l C) (hO : BoxsIn w bo no O) (hA : FacsIn w ba na A) (hB : FacsIn w bb nb B) (hP : FacsIn w bp np Pp) (hno : clmB P Q G y l C no O na A nb B np Pp Y Z = false) :
    Calls Tryz.prog 29 #[gv P Q G H a m cap, .int .u64 y, .slice bi l ci, .slice bo no co, tk ba na ca X bb nb cb Y Z bp np cp] w (GivD w (clmB P Q G y l C no O na A nb B np Pp Y Z) (4 * l + 6) (tgtT P Q G X Y Z l A B Pp (fun j w => C j (2 * w)) (fun j w => C j (2 * w + 1))) (fun _ => 7 * l + 3) (bas8 l Pp G H y (fun j w => O j (2 * w)) (fun j w => O j (2 * w + 1)))) := by
  obtain ⟨T, hT⟩ : ∃ T, T = (tgtT P Q G X Y Z l A B Pp (fun j w => C j (2 * w)) (fun j w => C j (2 * w + 1))) := ⟨_, rfl⟩
  obtain ⟨R, hRr⟩ : ∃ R, R = (bas8 l Pp G H y (fun j w => O j (2 * w)) (fun j w => O j (2 * w + 1))) := ⟨_, rfl⟩
  rw [← hT, ← hRr]
  clear hT hRr
  have HNo : Hid (clmB P Q G y l C no O na A nb B np Pp Y Z = false) := hno
  obtain ⟨D0, hD0⟩ : ∃ D0, D0 = bigI P Q G (A 0) (B 0) Y Z := ⟨_, rfl⟩
  have hcl0 : fitB l no na nb np = true → eltB P Q y l C no O na A nb B np Pp = true → ¬ Pp 0 = D0 := fun h1 h2 h3 => by
    unfold clmB at hno
    rw [h1, h2, h3, hD0] at hno
    simp at hno
  have HBi : Hid (∀ wx, Old w wx → Calls Tryz.prog 54 #[gv P Q G H a m cap, .slice bi l ci] wx (Ret wx (.bool (batB P Q l C)))) := fun wx ho => rbatch8_any P Q G H a m cap bi l ci C wx h4 hl (hC.old ho)
  have HBo : Hid (∀ wx, Old w wx → Calls Tryz.prog 54 #[gv P Q G H a m cap, .slice bo no co] wx (Ret wx (.bool (batB P Q no O)))) := fun wx ho => rbatch8_any P Q G H a m cap bo no co O wx h4 hln (hO.old ho)
  have HIn : Hid (∀ wx, Calls Tryz.prog 55 #[gv P Q G H a m cap, .int .u64 y] wx (Ret wx (.bool (inI P Q y)))) := fun wx => rin_any P Q G H y a m cap wx h4.q0 h4.q1 hy.2
  have HEa : Hid (∀ wx, Old w wx → Calls Tryz.prog 84 #[gv P Q G H a m cap, .slice ba na ca] wx (Ret wx (.bool (elB P Q na A)))) := fun wx ho => relements8_any P Q G H a m cap ba na ca A wx h4 hla (hA.old ho)
  have HEb : Hid (∀ wx, Old w wx → Calls Tryz.prog 84 #[gv P Q G H a m cap, .slice bb nb cb] wx (Ret wx (.bool (elB P Q nb B)))) := fun wx ho => relements8_any P Q G H a m cap bb nb cb B wx h4 hlb (hB.old ho)
  have HEp : Hid (∀ wx, Old w wx → Calls Tryz.prog 84 #[gv P Q G H a m cap, .slice bp np cp] wx (Ret wx (.bool (elB P Q np Pp)))) := fun wx ho => relements8_any P Q G H a m cap bp np cp Pp wx h4 hlp (hP.old ho)
  have HBg0 : Hid (0 < na → 0 < nb → ∀ wx, Old w wx → Calls Tryz.prog 67 #[gv P Q G H a m cap, tk ba na ca X bb nb cb Y Z bp np cp, .int .i64 0] wx (Ret wx (.int .u64 D0))) := fun h1 h2 wx ho => by rw [hD0]; exact rbig8_any P Q G H a m cap ba na ca X bb nb cb Y Z bp np cp A B 0 wx h4 h1 h2 hY hZ (hA.old ho) (hB.old ho)
  have HPh : Hid (FacsIn w bp np Pp) := hP
  have Hcl0 : Hid (fitB l no na nb np = true → eltB P Q y l C no O na A nb B np Pp = true → ¬ Pp 0 = D0) := hcl0
  clear hD0 hno hcl0 hC hO hA hB hP h4 hy hX hY hZ
  have HZ := lain3 w (gc P Q G H a m cap) (tkc ba na ca X bb nb cb Y Z bp np cp) (cc none 0 0 none 0 0) 25 41 50
  have HG0 := fun w' ho => (HZ.then (W' := w') ho).row 0 (by simp)
  have HTk0 := fun w' ho => (HZ.then (W' := w') ho).row 1 (by simp)
  have HCl0 := fun w' ho => (HZ.then (W' := w') ho).row 2 (by simp)
  have HW0 : Hid (Old w (((w.alloc (.cells (gc P Q G H a m cap) 25)).alloc (.cells (tkc ba na ca X bb nb cb Y Z bp np cp) 41)).alloc (.cells (cc none 0 0 none 0 0) 50))) := HZ.old
  clear HZ
  go_enter Tryz.func29, Tryz.ntmps29
  go_upto_region 1 with fail
  generalize (((w.alloc (.cells (gc P Q G H a m cap) 25)).alloc (.cells (tkc ba na ca X bb nb cb Y Z bp np cp) 41)).alloc (.cells (cc none 0 0 none 0 0) 50)) = W at *
  have HG : Hid (∀ wx, Old W wx → wx.heap[w.heap.size]? = some (.cells (gc P Q G H a m cap) 25 (0, 0))) := HG0
  have HTk : Hid (∀ wx, Old W wx → wx.heap[w.heap.size + 1]? = some (.cells (tkc ba na ca X bb nb cb Y Z bp np cp) 41 (0, 0))) := HTk0
  have HCl : Hid (∀ wx, Old W wx → wx.heap[w.heap.size + 1 + 1]? = some (.cells (cc none 0 0 none 0 0) 50 (0, 0))) := HCl0
  clear HG0 HTk0 HCl0
  obtain ⟨gb, hgb⟩ : ∃ gb, gb = w.heap.size := ⟨_, rfl⟩
  rw [← hgb] at HG HTk HCl
  rw [← hgb]
  have Hgb : Hid (w.heap.size ≤ gb + 1 + 1) := by unfold Hid; omega
  clear hgb
  have HGc : Hid (∀ wx, Old W wx → wx.cell? ⟨gb, 0, none⟩ = some (.int .u64 P) ∧ wx.cell? ⟨gb, 1, none⟩ = some (.int .u64 Q) ∧ wx.cell? ⟨gb, 2, none⟩ = some (.int .u64 G) ∧ wx.cell? ⟨gb, 3, none⟩ = some (.int .u64 H) ∧ wx.cell? ⟨gb, 4, none⟩ = some (.slice a m cap)) := fun wx ho => ⟨cell_of_row _ _ 0 _ _ (0, 0) (HG.out _ ho), cell_of_row _ _ 1 _ _ (0, 0) (HG.out _ ho), cell_of_row _ _ 2 _ _ (0, 0) (HG.out _ ho), cell_of_row _ _ 3 _ _ (0, 0) (HG.out _ ho), cell_of_row _ _ 4 _ _ (0, 0) (HG.out _ ho)⟩
  have HTc : Hid (∀ wx, Old W wx → wx.cell? ⟨gb + 1, 0, none⟩ = some (.slice ba na ca) ∧ wx.cell? ⟨gb + 1, 1, none⟩ = some (.int .u64 X) ∧ wx.cell? ⟨gb + 1, 2, none⟩ = some (.slice bb nb cb) ∧ wx.cell? ⟨gb + 1, 3, none⟩ = some (.int .u64 Y) ∧ wx.cell? ⟨gb + 1, 4, none⟩ = some (.int .u64 Z) ∧ wx.cell? ⟨gb + 1, 5, none⟩ = some (.slice bp np cp)) := fun wx ho => ⟨cell_of_row _ _ 0 _ _ (0, 0) (HTk.out _ ho), cell_of_row _ _ 1 _ _ (0, 0) (HTk.out _ ho), cell_of_row _ _ 2 _ _ (0, 0) (HTk.out _ ho), cell_of_row _ _ 3 _ _ (0, 0) (HTk.out _ ho), cell_of_row _ _ 4 _ _ (0, 0) (HTk.out _ ho), cell_of_row _ _ 5 _ _ (0, 0) (HTk.out _ ho)⟩
  go_upto_region 3 with fail
  have HO2 : Hid (Old W (W.alloc (.cells #[.slice none 0 0, .slice none 0 0] 50))) := (Old.refl _).alloc _
  have HNb : Hid ((W.alloc (.cells #[.slice none 0 0, .slice none 0 0] 50)).heap[W.heap.size]? = some (.cells #[.slice none 0 0, .slice none 0 0] 50 (0, 0))) := heap_alloc_last _ _
  generalize W.alloc (.cells #[.slice none 0 0, .slice none 0 0] 50) = W2 at *
  generalize W.heap.size = nn at *
  have HNc : Hid (∀ wx, Old W2 wx → wx.cell? ⟨nn, 0, none⟩ = some (.slice none 0 0) ∧ wx.cell? ⟨nn, 1, none⟩ = some (.slice none 0 0)) := fun wx ho => by
    have h := (ho.block _ (obj_lt HNb.out)).trans HNb.out
    exact ⟨cell_of_row _ _ 0 _ _ (0, 0) h, cell_of_row _ _ 1 _ _ (0, 0) h⟩
  clear HNb
  obtain ⟨g0, g1, g2, g3, g4⟩ := HGc.out _ HO2.out
  cases hb1 : batB P Q l C with
  | false =>
    rw [hb1] at HBi
    clear hb1
    go_upto_region 4 with (go_at_call 54; refine (HBi.out _ (HW0.out.trans HO2.out)).mono ?_; rintro e w1 ⟨rfl, o1⟩; obtain ⟨g0, g1, g2, g3, g4⟩ := HGc.out _ (HO2.out.trans o1))
    have HOn : Hid (Old W2 w1) := o1
    obtain ⟨z0, z1⟩ := HNc.out _ HOn.out
    have hcl := HCl.out _ (HO2.out.trans HOn.out)
    have q0 : (w1).cell? ⟨gb + 1 + 1, 0, none⟩ = some (.slice none 0 0) := cell_of_row _ _ 0 _ _ (0, 0) hcl
    have q1 : (w1).cell? ⟨gb + 1 + 1, 1, none⟩ = some (.slice none 0 0) := cell_of_row _ _ 1 _ _ (0, 0) hcl
    have f0 : (w1).frozen? ⟨gb + 1 + 1, 0, none⟩ = false := row_frozen hcl 0
    have f1 : (w1).frozen? ⟨gb + 1 + 1, 1, none⟩ = false := row_frozen hcl 1
    have HRh : Hid ((w1).heap[gb + 1 + 1]? = some (.cells #[.slice none 0 0, .slice none 0 0] 50 (0, 0))) := hcl
    clear hcl
    go_wp2_with fail
    exact bodyPost_ret (result_pair (b := gb + 1 + 1) rfl rfl rfl (load_two HRh.out Tryz.underlying50 info_claim)) rfl (givD_no (W' := w1) HNo.out Hgb.out (HW0.out.trans (HO2.out.trans HOn.out)))
  | true =>
    rw [hb1] at HBi
    have h1n : 0 < l ∧ l ≤ 8 := (batB_iff.1 hb1).1
    cases hb2 : batB P Q no O with
    | false =>
      rw [hb2] at HBo
      clear hb1 hb2
      go_upto_region 4 with (first
          | (go_at_call 54; have hg := o1; refine (HBo.out _ ((HW0.out.trans HO2.out).trans o1)).mono ?_; rintro e w2 ⟨rfl, o2⟩; obtain ⟨g0, g1, g2, g3, g4⟩ := HGc.out _ ((HO2.out.trans o1).trans o2))
          | (go_at_call 54; refine (HBi.out _ (HW0.out.trans HO2.out)).mono ?_; rintro e w1 ⟨rfl, o1⟩; obtain ⟨g0, g1, g2, g3, g4⟩ := HGc.out _ (HO2.out.trans o1)))
      have HOn : Hid (Old W2 w2) := o1.trans o2
      obtain ⟨z0, z1⟩ := HNc.out _ HOn.out
      have hcl := HCl.out _ (HO2.out.trans HOn.out)
      have q0 : (w2).cell? ⟨gb + 1 + 1, 0, none⟩ = some (.slice none 0 0) := cell_of_row _ _ 0 _ _ (0, 0) hcl
      have q1 : (w2).cell? ⟨gb + 1 + 1, 1, none⟩ = some (.slice none 0 0) := cell_of_row _ _ 1 _ _ (0, 0) hcl
      have f0 : (w2).frozen? ⟨gb + 1 + 1, 0, none⟩ = false := row_frozen hcl 0
      have f1 : (w2).frozen? ⟨gb + 1 + 1, 1, none⟩ = false := row_frozen hcl 1
      have HRh : Hid ((w2).heap[gb + 1 + 1]? = some (.cells #[.slice none 0 0, .slice none 0 0] 50 (0, 0))) := hcl
      clear hcl
      go_wp2_with fail
      exact bodyPost_ret (result_pair (b := gb + 1 + 1) rfl rfl rfl (load_two HRh.out Tryz.underlying50 info_claim)) rfl (givD_no (W' := w2) HNo.out Hgb.out (HW0.out.trans (HO2.out.trans HOn.out)))
    | true =>
      rw [hb2] at HBo
      cases hb3 : inI P Q y with
      | false =>
        rw [hb3] at HIn
        clear hb1 hb2 hb3
        go_upto_region 4 with (first
            | (go_at_call 55; have hg := o2; refine (HIn.out _).mono ?_; rintro e w3 ⟨rfl, o3⟩; obtain ⟨t0, t1, t2, t3, t4, t5⟩ := HTc.out _ (((HO2.out.trans o1).trans o2).trans o3))
            | (go_at_call 54; have hg := o1; refine (HBo.out _ ((HW0.out.trans HO2.out).trans o1)).mono ?_; rintro e w2 ⟨rfl, o2⟩; obtain ⟨g0, g1, g2, g3, g4⟩ := HGc.out _ ((HO2.out.trans o1).trans o2))
            | (go_at_call 54; refine (HBi.out _ (HW0.out.trans HO2.out)).mono ?_; rintro e w1 ⟨rfl, o1⟩; obtain ⟨g0, g1, g2, g3, g4⟩ := HGc.out _ (HO2.out.trans o1)))
        have HOn : Hid (Old W2 w3) := (o1.trans o2).trans o3
        obtain ⟨z0, z1⟩ := HNc.out _ HOn.out
        have hcl := HCl.out _ (HO2.out.trans HOn.out)
        have q0 : (w3).cell? ⟨gb + 1 + 1, 0, none⟩ = some (.slice none 0 0) := cell_of_row _ _ 0 _ _ (0, 0) hcl
        have q1 : (w3).cell? ⟨gb + 1 + 1, 1, none⟩ = some (.slice none 0 0) := cell_of_row _ _ 1 _ _ (0, 0) hcl
        have f0 : (w3).frozen? ⟨gb + 1 + 1, 0, none⟩ = false := row_frozen hcl 0
        have f1 : (w3).frozen? ⟨gb + 1 + 1, 1, none⟩ = false := row_frozen hcl 1
        have HRh : Hid ((w3).heap[gb + 1 + 1]? = some (.cells #[.slice none 0 0, .slice none 0 0] 50 (0, 0))) := hcl
        clear hcl
        go_wp2_with fail
        exact bodyPost_ret (result_pair (b := gb + 1 + 1) rfl rfl rfl (load_two HRh.out Tryz.underlying50 info_claim)) rfl (givD_no (W' := w3) HNo.out Hgb.out (HW0.out.trans (HO2.out.trans HOn.out)))
      | true =>
        rw [hb3] at HIn
        by_cases e0 : no = l
        rotate_left
        · have k0 : ¬ (no : Int) = (l : Int) := by omega
          clear hb1 hb2 hb3 e0
          go_upto_region 4 with (first
              | (go_at_call 55; have hg := o2; refine (HIn.out _).mono ?_; rintro e w3 ⟨rfl, o3⟩; obtain ⟨t0, t1, t2, t3, t4, t5⟩ := HTc.out _ (((HO2.out.trans o1).trans o2).trans o3))
              | (go_at_call 54; have hg := o1; refine (HBo.out _ ((HW0.out.trans HO2.out).trans o1)).mono ?_; rintro e w2 ⟨rfl, o2⟩; obtain ⟨g0, g1, g2, g3, g4⟩ := HGc.out _ ((HO2.out.trans o1).trans o2))
              | (go_at_call 54; refine (HBi.out _ (HW0.out.trans HO2.out)).mono ?_; rintro e w1 ⟨rfl, o1⟩; obtain ⟨g0, g1, g2, g3, g4⟩ := HGc.out _ (HO2.out.trans o1)))
          have HOn : Hid (Old W2 w3) := (o1.trans o2).trans o3
          obtain ⟨z0, z1⟩ := HNc.out _ HOn.out
          have hcl := HCl.out _ (HO2.out.trans HOn.out)
          have q0 : (w3).cell? ⟨gb + 1 + 1, 0, none⟩ = some (.slice none 0 0) := cell_of_row _ _ 0 _ _ (0, 0) hcl
          have q1 : (w3).cell? ⟨gb + 1 + 1, 1, none⟩ = some (.slice none 0 0) := cell_of_row _ _ 1 _ _ (0, 0) hcl
          have f0 : (w3).frozen? ⟨gb + 1 + 1, 0, none⟩ = false := row_frozen hcl 0
          have f1 : (w3).frozen? ⟨gb + 1 + 1, 1, none⟩ = false := row_frozen hcl 1
          have HRh : Hid ((w3).heap[gb + 1 + 1]? = some (.cells #[.slice none 0 0, .slice none 0 0] 50 (0, 0))) := hcl
          clear hcl
          go_wp2_with fail
          exact bodyPost_ret (result_pair (b := gb + 1 + 1) rfl rfl rfl (load_two HRh.out Tryz.underlying50 info_claim)) rfl (givD_no (W' := w3) HNo.out Hgb.out (HW0.out.trans (HO2.out.trans HOn.out)))
        by_cases e1 : na = l
        rotate_left
        · have k0 : (no : Int) = (l : Int) := by omega
          have k1 : ¬ (na : Int) = (l : Int) := by omega
          clear hb1 hb2 hb3 e0 e1
          go_upto_region 4 with (first
              | (go_at_call 55; have hg := o2; refine (HIn.out _).mono ?_; rintro e w3 ⟨rfl, o3⟩; obtain ⟨t0, t1, t2, t3, t4, t5⟩ := HTc.out _ (((HO2.out.trans o1).trans o2).trans o3))
              | (go_at_call 54; have hg := o1; refine (HBo.out _ ((HW0.out.trans HO2.out).trans o1)).mono ?_; rintro e w2 ⟨rfl, o2⟩; obtain ⟨g0, g1, g2, g3, g4⟩ := HGc.out _ ((HO2.out.trans o1).trans o2))
              | (go_at_call 54; refine (HBi.out _ (HW0.out.trans HO2.out)).mono ?_; rintro e w1 ⟨rfl, o1⟩; obtain ⟨g0, g1, g2, g3, g4⟩ := HGc.out _ (HO2.out.trans o1)))
          have HOn : Hid (Old W2 w3) := (o1.trans o2).trans o3
          obtain ⟨z0, z1⟩ := HNc.out _ HOn.out
          have hcl := HCl.out _ (HO2.out.trans HOn.out)
          have q0 : (w3).cell? ⟨gb + 1 + 1, 0, none⟩ = some (.slice none 0 0) := cell_of_row _ _ 0 _ _ (0, 0) hcl
          have q1 : (w3).cell? ⟨gb + 1 + 1, 1, none⟩ = some (.slice none 0 0) := cell_of_row _ _ 1 _ _ (0, 0) hcl
          have f0 : (w3).frozen? ⟨gb + 1 + 1, 0, none⟩ = false := row_frozen hcl 0
          have f1 : (w3).frozen? ⟨gb + 1 + 1, 1, none⟩ = false := row_frozen hcl 1
          have HRh : Hid ((w3).heap[gb + 1 + 1]? = some (.cells #[.slice none 0 0, .slice none 0 0] 50 (0, 0))) := hcl
          clear hcl
          go_wp2_with fail
          exact bodyPost_ret (result_pair (b := gb + 1 + 1) rfl rfl rfl (load_two HRh.out Tryz.underlying50 info_claim)) rfl (givD_no (W' := w3) HNo.out Hgb.out (HW0.out.trans (HO2.out.trans HOn.out)))
        by_cases e2 : nb = l
        rotate_left
        · have k0 : (no : Int) = (l : Int) := by omega
          have k1 : (na : Int) = (l : Int) := by omega
          have k2 : ¬ (nb : Int) = (l : Int) := by omega
          clear hb1 hb2 hb3 e0 e1 e2
          go_upto_region 4 with (first
              | (go_at_call 55; have hg := o2; refine (HIn.out _).mono ?_; rintro e w3 ⟨rfl, o3⟩; obtain ⟨t0, t1, t2, t3, t4, t5⟩ := HTc.out _ (((HO2.out.trans o1).trans o2).trans o3))
              | (go_at_call 54; have hg := o1; refine (HBo.out _ ((HW0.out.trans HO2.out).trans o1)).mono ?_; rintro e w2 ⟨rfl, o2⟩; obtain ⟨g0, g1, g2, g3, g4⟩ := HGc.out _ ((HO2.out.trans o1).trans o2))
              | (go_at_call 54; refine (HBi.out _ (HW0.out.trans HO2.out)).mono ?_; rintro e w1 ⟨rfl, o1⟩; obtain ⟨g0, g1, g2, g3, g4⟩ := HGc.out _ (HO2.out.trans o1)))
          have HOn : Hid (Old W2 w3) := (o1.trans o2).trans o3
          obtain ⟨z0, z1⟩ := HNc.out _ HOn.out
          have hcl := HCl.out _ (HO2.out.trans HOn.out)
          have q0 : (w3).cell? ⟨gb + 1 + 1, 0, none⟩ = some (.slice none 0 0) := cell_of_row _ _ 0 _ _ (0, 0) hcl
          have q1 : (w3).cell? ⟨gb + 1 + 1, 1, none⟩ = some (.slice none 0 0) := cell_of_row _ _ 1 _ _ (0, 0) hcl
          have f0 : (w3).frozen? ⟨gb + 1 + 1, 0, none⟩ = false := row_frozen hcl 0
          have f1 : (w3).frozen? ⟨gb + 1 + 1, 1, none⟩ = false := row_frozen hcl 1
          have HRh : Hid ((w3).heap[gb + 1 + 1]? = some (.cells #[.slice none 0 0, .slice none 0 0] 50 (0, 0))) := hcl
          clear hcl
          go_wp2_with fail
          exact bodyPost_ret (result_pair (b := gb + 1 + 1) rfl rfl rfl (load_two HRh.out Tryz.underlying50 info_claim)) rfl (givD_no (W' := w3) HNo.out Hgb.out (HW0.out.trans (HO2.out.trans HOn.out)))
        by_cases e3 : np = l
        rotate_left
        · have k0 : (no : Int) = (l : Int) := by omega
          have k1 : (na : Int) = (l : Int) := by omega
          have k2 : (nb : Int) = (l : Int) := by omega
          have k3 : ¬ (np : Int) = (l : Int) := by omega
          clear hb1 hb2 hb3 e0 e1 e2 e3
          go_upto_region 4 with (first
              | (go_at_call 55; have hg := o2; refine (HIn.out _).mono ?_; rintro e w3 ⟨rfl, o3⟩; obtain ⟨t0, t1, t2, t3, t4, t5⟩ := HTc.out _ (((HO2.out.trans o1).trans o2).trans o3))
              | (go_at_call 54; have hg := o1; refine (HBo.out _ ((HW0.out.trans HO2.out).trans o1)).mono ?_; rintro e w2 ⟨rfl, o2⟩; obtain ⟨g0, g1, g2, g3, g4⟩ := HGc.out _ ((HO2.out.trans o1).trans o2))
              | (go_at_call 54; refine (HBi.out _ (HW0.out.trans HO2.out)).mono ?_; rintro e w1 ⟨rfl, o1⟩; obtain ⟨g0, g1, g2, g3, g4⟩ := HGc.out _ (HO2.out.trans o1)))
          have HOn : Hid (Old W2 w3) := (o1.trans o2).trans o3
          obtain ⟨z0, z1⟩ := HNc.out _ HOn.out
          have hcl := HCl.out _ (HO2.out.trans HOn.out)
          have q0 : (w3).cell? ⟨gb + 1 + 1, 0, none⟩ = some (.slice none 0 0) := cell_of_row _ _ 0 _ _ (0, 0) hcl
          have q1 : (w3).cell? ⟨gb + 1 + 1, 1, none⟩ = some (.slice none 0 0) := cell_of_row _ _ 1 _ _ (0, 0) hcl
          have f0 : (w3).frozen? ⟨gb + 1 + 1, 0, none⟩ = false := row_frozen hcl 0
          have f1 : (w3).frozen? ⟨gb + 1 + 1, 1, none⟩ = false := row_frozen hcl 1
          have HRh : Hid ((w3).heap[gb + 1 + 1]? = some (.cells #[.slice none 0 0, .slice none 0 0] 50 (0, 0))) := hcl
          clear hcl
          go_wp2_with fail
          exact bodyPost_ret (result_pair (b := gb + 1 + 1) rfl rfl rfl (load_two HRh.out Tryz.underlying50 info_claim)) rfl (givD_no (W' := w3) HNo.out Hgb.out (HW0.out.trans (HO2.out.trans HOn.out)))
        have e0' := e0.symm
        have e1' := e1.symm
        have e2' := e2.symm
        have e3' := e3.symm
        clear e0 e1 e2 e3
        subst e0' e1' e2' e3'
        have Hfit : Hid (fitB l l l l l = true) := fitB_iff.2 ⟨⟨h1n.1, h1n.2⟩, rfl, rfl, rfl, rfl⟩
        have HB3 : Hid (batB P Q l C = true ∧ batB P Q l O = true ∧ inI P Q y = true) := ⟨hb1, hb2, hb3⟩
        have k0 : (l : Int) = (l : Int) := rfl
        clear hb1 hb2 hb3
        go_upto_region 5 with (first
            | (go_at_call 55; have hg := o2; refine (HIn.out _).mono ?_; rintro e w3 ⟨rfl, o3⟩; obtain ⟨t0, t1, t2, t3, t4, t5⟩ := HTc.out _ (((HO2.out.trans o1).trans o2).trans o3))
            | (go_at_call 54; have hg := o1; refine (HBo.out _ ((HW0.out.trans HO2.out).trans o1)).mono ?_; rintro e w2 ⟨rfl, o2⟩; obtain ⟨g0, g1, g2, g3, g4⟩ := HGc.out _ ((HO2.out.trans o1).trans o2))
            | (go_at_call 54; refine (HBi.out _ (HW0.out.trans HO2.out)).mono ?_; rintro e w1 ⟨rfl, o1⟩; obtain ⟨g0, g1, g2, g3, g4⟩ := HGc.out _ (HO2.out.trans o1)))
        have HO5 : Hid (Old W2 w3) := (o1.trans o2).trans o3
        have HOw : Hid (Old w w3) := HW0.out.trans (HO2.out.trans HO5.out)
        clear g0 g1 g2 g3 g4 o1 o2 o3 t0 t1 t2 t3 t4 t5 HBi HBo HIn k0
        rcases HPh.out with h0 | ⟨bp, op, hqp, _, hrp⟩
        · omega
        subst hqp
        have HP5 : Hid (∀ wx, Old w3 wx → wx.cell? ⟨bp, op, none⟩ = some (.int .u64 (Pp 0))) := fun wx ho => (HOw.out.trans ho).cellOf (hrp 0 h1n.1).1
        clear hrp
        have HG5 : Hid (∀ wx, Old w3 wx → wx.heap[gb]? = some (.cells (gc P Q G H a m cap) 25 (0, 0))) := fun wx ho => HG.out _ ((HO2.out.trans HO5.out).trans ho)
        have HT5k : Hid (∀ wx, Old w3 wx → wx.heap[gb + 1]? = some (.cells (tkc ba l ca X bb l cb Y Z (some ⟨bp, op, none⟩) l cp) 41 (0, 0))) := fun wx ho => HTk.out _ ((HO2.out.trans HO5.out).trans ho)
        have h1n : 0 < l := h1n.1
        have HBg0 : Hid (∀ wx, Old w wx → Calls Tryz.prog 67 #[gv P Q G H a m cap, tk ba l ca X bb l cb Y Z (some ⟨bp, op, none⟩) l cp, .int .i64 0] wx (Ret wx (.int .u64 D0))) := HBg0.out h1n h1n
        cases ha : elB P Q l A with
        | false =>
          rw [ha] at HEa
          clear ha
          refine wp_region_tabz 29 [.k (gv P Q G H a m cap), .k (.pointer (some ⟨gb + 1, 0, none⟩)), .k (.slice ba l ca), .k (.bool false), .k (.bool true), .k (.bool true), .k undef, .k undef, .k undef, .k undef, .k undef, .k (.bool true), .k (.bool true), .k undef, .k undef, .k undef, .k undef, .k undef, .k (.bool true), .k (.bool true), .k undef, .k undef, .k undef, .k undef, .k undef, .k undef, .k undef, .k undef, .k (.bool true)] (Old w3) (by kernel_rfl) (by kernel_rfl) rfl ((Old.refl _).drew) ?st ?_
          case st =>
            refine .c (stsz Tryz.underlying25 HG5.out) <|
              .c stpz <|
              .c (stfz 0 Tryz.underlying29 HT5k.out) <|
              .c (stKz old_R Tryz.func84 (fun wx hx => HEa.out wx (HOw.out.trans hx))) <|
              .c stpz <|
              .c stpz <|
              .c stnz <|
              .c stnz <|
              .c stnz <|
              .c stnz <|
              .c stnz <|
              .c stpz <|
              .c stpz <|
              .c stnz <|
              .c stnz <|
              .c stnz <|
              .c stnz <|
              .c stnz <|
              .c stpz <|
              .c stpz <|
              .c stnz <|
              .c stnz <|
              .c stnz <|
              .c stnz <|
              .c stnz <|
              .c stnz <|
              .c stnz <|
              .c stnz <|
              .c stpz .n
          intro t wx hR hk
          simp only [fill, Ent.val, List.set_cons_zero, List.set_cons_succ, List.drop_succ_cons, List.drop_zero, List.drop_nil]
          go_upto_region 6 with fail
          have HOn : Hid (Old W2 wx) := HO5.out.trans hR
          obtain ⟨z0, z1⟩ := HNc.out _ HOn.out
          have hcl := HCl.out _ (HO2.out.trans HOn.out)
          have q0 : (wx).cell? ⟨gb + 1 + 1, 0, none⟩ = some (.slice none 0 0) := cell_of_row _ _ 0 _ _ (0, 0) hcl
          have q1 : (wx).cell? ⟨gb + 1 + 1, 1, none⟩ = some (.slice none 0 0) := cell_of_row _ _ 1 _ _ (0, 0) hcl
          have f0 : (wx).frozen? ⟨gb + 1 + 1, 0, none⟩ = false := row_frozen hcl 0
          have f1 : (wx).frozen? ⟨gb + 1 + 1, 1, none⟩ = false := row_frozen hcl 1
          have HRh : Hid ((wx).heap[gb + 1 + 1]? = some (.cells #[.slice none 0 0, .slice none 0 0] 50 (0, 0))) := hcl
          clear hcl
          go_wp2_with fail
          exact bodyPost_ret (result_pair (b := gb + 1 + 1) rfl rfl rfl (load_two HRh.out Tryz.underlying50 info_claim)) rfl (givD_no (W' := wx) HNo.out Hgb.out (HW0.out.trans (HO2.out.trans HOn.out)))
        | true =>
          rw [ha] at HEa
          cases hb : elB P Q l B with
          | false =>
            rw [hb] at HEb
            clear ha hb
            refine wp_region_tabz 29 [.k (gv P Q G H a m cap), .k (.pointer (some ⟨gb + 1, 0, none⟩)), .k (.slice ba l ca), .k (.bool true), .k (.bool false), .k (.bool false), .k (gv P Q G H a m cap), .k (.pointer (some ⟨gb + 1, 2, none⟩)), .k (.slice bb l cb), .k (.bool false), .k (.bool true), .k (.bool true), .k (.bool true), .k undef, .k undef, .k undef, .k undef, .k undef, .k (.bool true), .k (.bool true), .k undef, .k undef, .k undef, .k undef, .k undef, .k undef, .k undef, .k undef, .k (.bool true)] (Old w3) (by kernel_rfl) (by kernel_rfl) rfl ((Old.refl _).drew) ?st ?_
            case st =>
              refine .c (stsz Tryz.underlying25 HG5.out) <|
                .c stpz <|
                .c (stfz 0 Tryz.underlying29 HT5k.out) <|
                .c (stKz old_R Tryz.func84 (fun wx hx => HEa.out wx (HOw.out.trans hx))) <|
                .c stpz <|
                .c stpz <|
                .c (stsz Tryz.underlying25 HG5.out) <|
                .c stpz <|
                .c (stfz 2 Tryz.underlying29 HT5k.out) <|
                .c (stKz old_R Tryz.func84 (fun wx hx => HEb.out wx (HOw.out.trans hx))) <|
                .c stpz <|
                .c stpz <|
                .c stpz <|
                .c stnz <|
                .c stnz <|
                .c stnz <|
                .c stnz <|
                .c stnz <|
                .c stpz <|
                .c stpz <|
                .c stnz <|
                .c stnz <|
                .c stnz <|
                .c stnz <|
                .c stnz <|
                .c stnz <|
                .c stnz <|
                .c stnz <|
                .c stpz .n
            intro t wx hR hk
            simp only [fill, Ent.val, List.set_cons_zero, List.set_cons_succ, List.drop_succ_cons, List.drop_zero, List.drop_nil]
            go_upto_region 6 with fail
            have HOn : Hid (Old W2 wx) := HO5.out.trans hR
            obtain ⟨z0, z1⟩ := HNc.out _ HOn.out
            have hcl := HCl.out _ (HO2.out.trans HOn.out)
            have q0 : (wx).cell? ⟨gb + 1 + 1, 0, none⟩ = some (.slice none 0 0) := cell_of_row _ _ 0 _ _ (0, 0) hcl
            have q1 : (wx).cell? ⟨gb + 1 + 1, 1, none⟩ = some (.slice none 0 0) := cell_of_row _ _ 1 _ _ (0, 0) hcl
            have f0 : (wx).frozen? ⟨gb + 1 + 1, 0, none⟩ = false := row_frozen hcl 0
            have f1 : (wx).frozen? ⟨gb + 1 + 1, 1, none⟩ = false := row_frozen hcl 1
            have HRh : Hid ((wx).heap[gb + 1 + 1]? = some (.cells #[.slice none 0 0, .slice none 0 0] 50 (0, 0))) := hcl
            clear hcl
            go_wp2_with fail
            exact bodyPost_ret (result_pair (b := gb + 1 + 1) rfl rfl rfl (load_two HRh.out Tryz.underlying50 info_claim)) rfl (givD_no (W' := wx) HNo.out Hgb.out (HW0.out.trans (HO2.out.trans HOn.out)))
          | true =>
            rw [hb] at HEb
            cases hp : elB P Q l Pp with
            | false =>
              rw [hp] at HEp
              clear ha hb hp
              refine wp_region_tabz 29 [.k (gv P Q G H a m cap), .k (.pointer (some ⟨gb + 1, 0, none⟩)), .k (.slice ba l ca), .k (.bool true), .k (.bool false), .k (.bool false), .k (gv P Q G H a m cap), .k (.pointer (some ⟨gb + 1, 2, none⟩)), .k (.slice bb l cb), .k (.bool true), .k (.bool false), .k (.bool false), .k (.bool false), .k (gv P Q G H a m cap), .k (.pointer (some ⟨gb + 1, 5, none⟩)), .k (.slice (some ⟨bp, op, none⟩) l cp), .k (.bool false), .k (.bool true), .k (.bool true), .k (.bool true), .k undef, .k undef, .k undef, .k undef, .k undef, .k undef, .k undef, .k undef, .k (.bool true)] (Old w3) (by kernel_rfl) (by kernel_rfl) rfl ((Old.refl _).drew) ?st ?_
              case st =>
                refine .c (stsz Tryz.underlying25 HG5.out) <|
                  .c stpz <|
                  .c (stfz 0 Tryz.underlying29 HT5k.out) <|
                  .c (stKz old_R Tryz.func84 (fun wx hx => HEa.out wx (HOw.out.trans hx))) <|
                  .c stpz <|
                  .c stpz <|
                  .c (stsz Tryz.underlying25 HG5.out) <|
                  .c stpz <|
                  .c (stfz 2 Tryz.underlying29 HT5k.out) <|
                  .c (stKz old_R Tryz.func84 (fun wx hx => HEb.out wx (HOw.out.trans hx))) <|
                  .c stpz <|
                  .c stpz <|
                  .c stpz <|
                  .c (stsz Tryz.underlying25 HG5.out) <|
                  .c stpz <|
                  .c (stfz 5 Tryz.underlying29 HT5k.out) <|
                  .c (stKz old_R Tryz.func84 (fun wx hx => HEp.out wx (HOw.out.trans hx))) <|
                  .c stpz <|
                  .c stpz <|
                  .c stpz <|
                  .c stnz <|
                  .c stnz <|
                  .c stnz <|
                  .c stnz <|
                  .c stnz <|
                  .c stnz <|
                  .c stnz <|
                  .c stnz <|
                  .c stpz .n
              intro t wx hR hk
              simp only [fill, Ent.val, List.set_cons_zero, List.set_cons_succ, List.drop_succ_cons, List.drop_zero, List.drop_nil]
              go_upto_region 6 with fail
              have HOn : Hid (Old W2 wx) := HO5.out.trans hR
              obtain ⟨z0, z1⟩ := HNc.out _ HOn.out
              have hcl := HCl.out _ (HO2.out.trans HOn.out)
              have q0 : (wx).cell? ⟨gb + 1 + 1, 0, none⟩ = some (.slice none 0 0) := cell_of_row _ _ 0 _ _ (0, 0) hcl
              have q1 : (wx).cell? ⟨gb + 1 + 1, 1, none⟩ = some (.slice none 0 0) := cell_of_row _ _ 1 _ _ (0, 0) hcl
              have f0 : (wx).frozen? ⟨gb + 1 + 1, 0, none⟩ = false := row_frozen hcl 0
              have f1 : (wx).frozen? ⟨gb + 1 + 1, 1, none⟩ = false := row_frozen hcl 1
              have HRh : Hid ((wx).heap[gb + 1 + 1]? = some (.cells #[.slice none 0 0, .slice none 0 0] 50 (0, 0))) := hcl
              clear hcl
              go_wp2_with fail
              exact bodyPost_ret (result_pair (b := gb + 1 + 1) rfl rfl rfl (load_two HRh.out Tryz.underlying50 info_claim)) rfl (givD_no (W' := wx) HNo.out Hgb.out (HW0.out.trans (HO2.out.trans HOn.out)))
            | true =>
              rw [hp] at HEp
              have hD : ¬ Pp 0 = D0 := Hcl0.out Hfit.out (eltB_iff.2 ⟨HB3.out.2.2, HB3.out.1, HB3.out.2.1, ha, hb, hp⟩)
              have hne : Hid (Value.bool (!(Pp 0 == D0)) = .bool true) := by unfold Hid; simp [hD]
              clear ha hb hp hD
              refine wp_region_tabz 29 [.k (gv P Q G H a m cap), .k (.pointer (some ⟨gb + 1, 0, none⟩)), .k (.slice ba l ca), .k (.bool true), .k (.bool false), .k (.bool false), .k (gv P Q G H a m cap), .k (.pointer (some ⟨gb + 1, 2, none⟩)), .k (.slice bb l cb), .k (.bool true), .k (.bool false), .k (.bool false), .k (.bool false), .k (gv P Q G H a m cap), .k (.pointer (some ⟨gb + 1, 5, none⟩)), .k (.slice (some ⟨bp, op, none⟩) l cp), .k (.bool true), .k (.bool false), .k (.bool false), .k (.bool false), .k (.pointer (some ⟨gb + 1, 5, none⟩)), .k (.slice (some ⟨bp, op, none⟩) l cp), .k (.pointer (some ⟨bp, op, none⟩)), .k (.int .u64 (Pp 0)), .k (gv P Q G H a m cap), .k (tk ba l ca X bb l cb Y Z (some ⟨bp, op, none⟩) l cp), .k (.int .u64 D0), .k (.bool true), .k (.bool true)] (Old w3) (by kernel_rfl) (by kernel_rfl) rfl ((Old.refl _).drew) ?st ?_
              case st =>
                refine .c (stsz Tryz.underlying25 HG5.out) <|
                  .c stpz <|
                  .c (stfz 0 Tryz.underlying29 HT5k.out) <|
                  .c (stKz old_R Tryz.func84 (fun wx hx => HEa.out wx (HOw.out.trans hx))) <|
                  .c stpz <|
                  .c stpz <|
                  .c (stsz Tryz.underlying25 HG5.out) <|
                  .c stpz <|
                  .c (stfz 2 Tryz.underlying29 HT5k.out) <|
                  .c (stKz old_R Tryz.func84 (fun wx hx => HEb.out wx (HOw.out.trans hx))) <|
                  .c stpz <|
                  .c stpz <|
                  .c stpz <|
                  .c (stsz Tryz.underlying25 HG5.out) <|
                  .c stpz <|
                  .c (stfz 5 Tryz.underlying29 HT5k.out) <|
                  .c (stKz old_R Tryz.func84 (fun wx hx => HEp.out wx (HOw.out.trans hx))) <|
                  .c stpz <|
                  .c stpz <|
                  .c stpz <|
                  .c stpz <|
                  .c (stfz 5 Tryz.underlying29 HT5k.out) <|
                  .c (stiz (n := l) (c := cp) (i := 0) h1n Tryz.underlying29) <|
                  .c (stlz Tryz.underlying22 HP5.out) <|
                  .c (stsz Tryz.underlying25 HG5.out) <|
                  .c (stsz Tryz.underlying41 HT5k.out) <|
                  .c (stKz old_R Tryz.func67 (fun wx hx => HBg0.out wx (HOw.out.trans hx))) <|
                  .c (stvz (v' := .bool (!(Pp 0 == D0))) hne.out) <|
                  .c stpz .n
              intro t wx hR hk
              simp only [fill, Ent.val, List.set_cons_zero, List.set_cons_succ, List.drop_succ_cons, List.drop_zero, List.drop_nil]
              go_upto_region 6 with fail
              have HOn : Hid (Old W2 wx) := HO5.out.trans hR
              obtain ⟨z0, z1⟩ := HNc.out _ HOn.out
              have hcl := HCl.out _ (HO2.out.trans HOn.out)
              have q0 : (wx).cell? ⟨gb + 1 + 1, 0, none⟩ = some (.slice none 0 0) := cell_of_row _ _ 0 _ _ (0, 0) hcl
              have q1 : (wx).cell? ⟨gb + 1 + 1, 1, none⟩ = some (.slice none 0 0) := cell_of_row _ _ 1 _ _ (0, 0) hcl
              have f0 : (wx).frozen? ⟨gb + 1 + 1, 0, none⟩ = false := row_frozen hcl 0
              have f1 : (wx).frozen? ⟨gb + 1 + 1, 1, none⟩ = false := row_frozen hcl 1
              have HRh : Hid ((wx).heap[gb + 1 + 1]? = some (.cells #[.slice none 0 0, .slice none 0 0] 50 (0, 0))) := hcl
              clear hcl
              go_wp2_with fail
              exact bodyPost_ret (result_pair (b := gb + 1 + 1) rfl rfl rfl (load_two HRh.out Tryz.underlying50 info_claim)) rfl (givD_no (W' := wx) HNo.out Hgb.out (HW0.out.trans (HO2.out.trans HOn.out)))

theorem rclaim8_any (P Q G H : Int) (a : Option Addr) (m cap : Nat) (y : Int) (bi : Option Addr) (l ci : Nat) (C : Nat → Nat → Int) (bo : Option Addr) (no co : Nat) (O : Nat → Nat → Int) (ba : Option Addr) (na ca : Nat) (A : Nat → Int) (X : Int) (bb : Option Addr) (nb cb : Nat) (B : Nat → Int) (Y Z : Int) (bp : Option Addr) (np cp : Nat) (Pp : Nat → Int) (w : World) (hl : l ≤ 9223372036854775807) (hln : no ≤ 9223372036854775807) (hla : na ≤ 9223372036854775807) (hlb : nb ≤ 9223372036854775807) (hlp : np ≤ 9223372036854775807) (h4 : Four P Q G H) (hy : U64 y) (hX : U64 X) (hY : U64 Y) (hZ : U64 Z) (hC : BoxsIn w bi l C) (hO : BoxsIn w bo no O) (hA : FacsIn w ba na A) (hB : FacsIn w bb nb B) (hP : FacsIn w bp np Pp) :
    Calls Tryz.prog 29 #[gv P Q G H a m cap, .int .u64 y, .slice bi l ci, .slice bo no co, tk ba na ca X bb nb cb Y Z bp np cp] w (GivD w (clmB P Q G y l C no O na A nb B np Pp Y Z) (4 * l + 6) (tgtT P Q G X Y Z l A B Pp (fun j w => C j (2 * w)) (fun j w => C j (2 * w + 1))) (fun _ => 7 * l + 3) (bas8 l Pp G H y (fun j w => O j (2 * w)) (fun j w => O j (2 * w + 1)))) := by
  cases hc : clmB P Q G y l C no O na A nb B np Pp Y Z with
  | false =>
    have h := rclm8_no P Q G H a m cap y bi l ci C bo no co O ba na ca A X bb nb cb B Y Z bp np cp Pp w hl hln hla hlb hlp h4 hy hX hY hZ hC hO hA hB hP hc
    rwa [hc] at h
  | true =>
    have hc' := hc
    unfold clmB at hc'
    rw [Bool.and_eq_true_iff, Bool.and_eq_true_iff, decide_eq_true_eq] at hc'
    obtain ⟨hf, he, hD⟩ := hc'
    obtain ⟨⟨h1, h8⟩, e1, e2, e3, e4⟩ := fitB_iff.1 hf
    subst e1 e2 e3 e4
    exact rclm8_yes P Q G H a m cap y bi ci C bo co O ba ca A X bb cb B Y Z bp cp Pp _ w h1 h8 h4 hy hX hY hZ hC hO hA hB hP he hD

end Go.Proofs.YtlnmjbbpenhdbaaGreat

namespace Go.Proofs.YtlnmjbbpenhdbaaGreat
open Go.RowKit

theorem same7 (n : Nat) (X : Nat → Int) : sameB n X n X = true := sameB_iff.2 ⟨rfl, fun _ _ => rfl⟩

set_option linter.unusedSimpArgs false in
set_option maxRecDepth 100000 in
set_option maxHeartbeats 8000000 in
theorem ralike_any (b1 : Option Addr) (nt c1 : Nat) (T : Nat → Int) (b2 : Option Addr) (nb c2 : Nat) (BA : Nat → Option Addr) (L C : Nat → Nat) (B : Nat → Nat → Int) (b3 : Option Addr) (c3 : Nat) (b4 : Option Addr) (c4 : Nat) (BA' : Nat → Option Addr) (C' : Nat → Nat) (w : World) (hC : ClaimIn w b1 nt c1 T b2 nb c2 BA L C B) (hD : ClaimIn w b3 nt c3 T b4 nb c4 BA' L C' B) :
    Calls Tryz.prog 30 #[cv b1 nt c1 b2 nb c2, cv b3 nt c3 b4 nb c4] w fun e w' => e = .returned (.bool true) ∧ Old w w' := by
  have HZ := lain2 w (cc b1 nt c1 b2 nb c2) (cc b3 nt c3 b4 nb c4) 50 50
  have mt : nt ≤ 9223372036854775807 := Nat.le_trans hC.tc hC.tm
  have mb : nb ≤ 9223372036854775807 := Nat.le_trans hC.bc hC.bm
  have HS : Hid (∀ wx, Old w wx → Calls Tryz.prog 19 #[.slice b1 nt c1, .slice b3 nt c3] wx fun e w' => e = .returned (.bool true) ∧ Old wx w') := fun wx ho => (rsame_any b1 nt c1 T b3 nt c3 T wx mt (hC.tar.old ho) (hD.tar.old ho)).mono fun e w' ⟨h, k⟩ => ⟨by rw [h, same7], k⟩
  have HB : Hid (ListsIn w b2 nb BA L C B) := hC.bas
  have HE : Hid (ListsIn w b4 nb BA' L C' B) := hD.bas
  clear hC hD
  go_enter Tryz.func30, Tryz.ntmps30
  go_upto_region 1 with fail
  generalize (w.alloc (.cells (cc b1 nt c1 b2 nb c2) 50)).alloc (.cells (cc b3 nt c3 b4 nb c4) 50) = W at *
  have HW0 : Hid (Old w W) := HZ.old
  have HT : Hid (∀ w', Old W w' → w'.cell? ⟨w.heap.size, 0, none⟩ = some (.slice b1 nt c1) ∧ w'.cell? ⟨w.heap.size, 1, none⟩ = some (.slice b2 nb c2) ∧ w'.cell? ⟨w.heap.size + 1, 0, none⟩ = some (.slice b3 nt c3) ∧ w'.cell? ⟨w.heap.size + 1, 1, none⟩ = some (.slice b4 nb c4)) := fun w' ho => by
    have h := HZ.then ho
    exact ⟨h.cell 0 0 (by simp) rfl, h.cell 0 1 (by simp) rfl, h.cell 1 0 (by simp) rfl, h.cell 1 1 (by simp) rfl⟩
  clear HZ
  obtain ⟨d0, d1, d2, d3⟩ := HT.out _ (Old.refl _)
  go_upto_region 3 with (go_at_call 19; refine (HS.out _ HW0.out).mono ?_; rintro e w2 ⟨rfl, h2⟩; clear d0 d1 d2 d3; obtain ⟨d0, d1, d2, d3⟩ := HT.out _ h2)
  have HW2 : Hid (Old W w2) := h2
  clear d0 d1 d2 d3 h2
  go_upto_region 4 with fail
  go_loopw [5] (fun iv wx => ∃ i : Nat, iv = .int .i64 (i : Int) ∧ i ≤ nb ∧ Hid (Old W wx)) (fun iv _ => nb - (intOf iv).toNat)
  case atStart => exact ⟨0, rfl, Nat.zero_le _, HW2⟩
  case round =>
    obtain ⟨i, rfl, hi, HW⟩ := hrel
    obtain ⟨d0, d1, d2, d3⟩ := HT.out _ HW.out
    by_cases hlt : i < nb
    · rcases HB.out with h0 | ⟨bx, ox, hqx, _, hrx⟩
      · omega
      rcases HE.out with h0 | ⟨by_, oy, hqy, _, hry⟩
      · omega
      obtain ⟨hx1, hx2, hx3, hx4⟩ := hrx i hlt
      obtain ⟨hy1, hy2, hy3, hy4⟩ := hry i hlt
      have HR : Hid (∀ wx, Old W wx → Calls Tryz.prog 19 #[.slice (BA i) (L i) (C i), .slice (BA' i) (L i) (C' i)] wx fun e w' => e = .returned (.bool true) ∧ Old wx w') := fun wx ho => (rsame_any (BA i) (L i) (C i) (B i) (BA' i) (L i) (C' i) (B i) wx (by omega) (hx4.old (HW0.out.trans ho)) (hy4.old (HW0.out.trans ho))).mono fun e w' ⟨h, k⟩ => ⟨by rw [h, same7], k⟩
      have HC : Hid (∀ w', Old W w' → w'.cell? ⟨bx, ox + i, none⟩ = some (.slice (BA i) (L i) (C i)) ∧ w'.cell? ⟨by_, oy + i, none⟩ = some (.slice (BA' i) (L i) (C' i))) := fun w' ho => ⟨(HW0.out.trans ho).cellOf hx1, (HW0.out.trans ho).cellOf hy1⟩
      clear hrx hry hx1 hx2 hx3 hx4 hy1 hy2 hy3 hy4
      subst hqx hqy
      go_upto_region 6 with fail
      have i0 : (0 : Int) ≤ (i : Int) := by omega
      have i1 : (i : Int) < (nb : Int) := by omega
      have hd : Old W wr.drew := HW.out.drew
      go_region_held3 (fun w' => (w'.cell? ⟨w.heap.size, 0, none⟩ = some (.slice b1 nt c1) ∧ w'.cell? ⟨w.heap.size, 1, none⟩ = some (.slice (some ⟨bx, ox, none⟩) nb c2) ∧ w'.cell? ⟨w.heap.size + 1, 0, none⟩ = some (.slice b3 nt c3) ∧ w'.cell? ⟨w.heap.size + 1, 1, none⟩ = some (.slice (some ⟨by_, oy, none⟩) nb c4)) ∧ w'.cell? ⟨bx, ox + i, none⟩ = some (.slice (BA i) (L i) (C i)) ∧ w'.cell? ⟨by_, oy + i, none⟩ = some (.slice (BA' i) (L i) (C' i))) (first | exact ⟨HT.out _ h5, HC.out _ h5⟩ | exact ⟨HT.out _ hd, HC.out _ hd⟩) (first
        | (go_at_call 19; refine (HR.out _ hd).mono ?_; rintro e w5 ⟨rfl, o5⟩; have h5 : Old W w5 := hd.trans o5))
      have HW5 : Hid (Old W w5) := h5
      clear h5 d0 d1 d2 d3
      go_wp2_with fail
      go_roundw
      case rel => exact ⟨i + 1, by first | exact idx_next i | exact idx_up i, by omega, HW5⟩
      case measure => simp [intOf]; omega
    · have he : nb = i := by omega
      subst he
      go_wp2_with fail
      go_ret
      exact ⟨rfl, HW0.out.trans HW.out⟩

end Go.Proofs.YtlnmjbbpenhdbaaGreat

namespace Go.Proofs.YtlnmjbbpenhdbaaGreat
open Go.RowKit
set_option linter.unusedSimpArgs false
set_option linter.unusedVariables false

/-- What is known of a claim, or of none. -/
theorem GivD.any {w w' : World} {nt : Nat} {ok : Bool} {T : Nat → Int} {L : Nat → Nat} {B : Nat → Nat → Int} {r : Ending} (h : GivD w ok nt T L B r w') (hT : ok = true → ∀ j, j < nt → U64 (T j)) (hB : ok = true → ∀ j, j < nt → ∀ i, i < L j → U64 (B j i)) : ∃ bt ct bb cb BA C, r = .returned (.tuple #[cv bt (if ok then nt else 0) ct bb (if ok then nt else 0) cb, .bool ok]) ∧ Old w w' ∧ ClaimIn w' bt (if ok then nt else 0) ct T bb (if ok then nt else 0) cb BA L C B := by
  obtain ⟨ho, v, u, rfl, h1, h2⟩ := h
  have hT2 : ∀ j, j < (if ok then nt else 0) → U64 (T j) := fun j hj => by cases ok with | true => exact hT rfl j hj | false => simp at hj
  have hB2 : ∀ j, j < (if ok then nt else 0) → ∀ i, i < L j → U64 (B j i) := fun j hj => by cases ok with | true => exact hB rfl j hj | false => simp at hj
  obtain ⟨bt, ct, rfl, q1, q2, hf⟩ := Nums.facs2 (k := if ok then nt else 0) h1 hT2
  obtain ⟨bb, cb, BA, C, rfl, q3, q4, hl⟩ := Rws.lists (nb := if ok then nt else 0) h2 hB2
  exact ⟨bt, ct, bb, cb, BA, C, rfl, ho, q1, q2, q3, q4, hf, hl⟩
set_option maxRecDepth 100000 in
set_option maxHeartbeats 16000000 in
theorem law8_claims (ba : Option Addr) (na ca : Nat) (A1 : Nat → Int) (X : Int) (bb : Option Addr) (nb cb : Nat) (B : Nat → Int) (Y Z : Int) (bp : Option Addr) (np cp : Nat) (Pp : Nat → Int) (P Q G H : Int) (a : Option Addr) (m cap : Nat) (N A : Nat → Int) (FA : Nat → Option Addr) (RL RC : Nat → Nat) (RF : Nat → Nat → Int) (label : List Int) (y : Int) (bi : Option Addr) (l ci : Nat) (C : Nat → Nat → Int) (bo : Option Addr) (no co : Nat) (O : Nat → Int) (bρ : Option Addr) (nρ cρ : Nat) (Rh : Nat → Nat → Int) (bR : Option Addr) (nR cR : Nat) (R : Nat → Int) (bS : Option Addr) (nS cS : Nat) (S : Nat → Int) (bT : Option Addr) (nT cT : Nat) (T : Nat → Int) (bD : Option Addr) (nD cD : Nat) (D : Nat → Int) (w : World) (hX : U64 X) (hY : U64 Y) (hZ : U64 Z) (hca : na ≤ ca ∧ ca ≤ 9223372036854775807) (hA : FacsIn w ba na A1) (hcb : nb ≤ cb ∧ cb ≤ 9223372036854775807) (hB : FacsIn w bb nb B) (hcp : np ≤ cp ∧ cp ≤ 9223372036854775807) (hP : FacsIn w bp np Pp) (h4 : Four P Q G H) (_hcap : m ≤ cap) (hin : RowsIn w a m N A FA RL RC RF) (hlb : Bts label) (hy : U64 y) (hC : BoxsIn w bi l C) (hO : IntsIn w bo no O) (hρ : RhoIn w bρ nρ Rh) (hR : FacsIn w bR nR R) (hS : FacsIn w bS nS S) (hcT : nT ≤ cT ∧ cT ≤ 9223372036854775807) (hT : FacsIn w bT nT T) (hcD : nD ≤ cD ∧ cD ≤ 9223372036854775807) (hD : FacsIn w bD nD D) :
    Calls Tryz.prog 5 #[gv P Q G H a m cap, jv label y bi l ci bo no co bρ nρ cρ bR nR cR bS nS cS bT nT cT bD nD cD, tk ba na ca X bb nb cb Y Z bp np cp] w (Ret w (.bool true)) := by
  have HA : Hid (∀ wx, Calls Tryz.prog 12 #[] wx (Ret wx (.bool true))) := fun wx => awake8_any wx
  have HU : Hid (∀ wx, Old w wx → Calls Tryz.prog 13 #[gv P Q G H a m cap] wx fun e w' => e = .returned (.bool (fewB RL m && rightI P Q G H N A RF RL m)) ∧ Old wx w') := fun wx ho => group5_any P Q G H a m cap N A FA RL RC RF wx h4 (hin.old ho)
  have HL : Hid (∀ wx, Calls Tryz.prog 14 #[jv label y bi l ci bo no co bρ nρ cρ bR nR cR bS nS cS bT nT cT bD nD cD] wx (Ret wx (.bool (fewJ label.length l no nρ nR nS nT nD)))) := fun wx => few8_any label y bi l ci bo no co bρ nρ cρ bR nR cR bS nS cS bT nT cT bD nD cD wx
  have ha := hin.a0
  have HZ := lain3 w (gc P Q G H a m cap) (jvc label y bi l ci bo no co bρ nρ cρ bR nR cR bS nS cS bT nT cT bD nD cD) #[.slice ba na ca, .int .u64 X, .slice bb nb cb, .int .u64 Y, .int .u64 Z, .slice bp np cp] 25 33 41
  have HG0 := fun w' ho => (HZ.then (W' := w') ho).row 0 (by simp)
  have HJ0 := fun w' ho => (HZ.then (W' := w') ho).row 1 (by simp)
  have HX0 := fun w' ho => (HZ.then (W' := w') ho).row 2 (by simp)
  have HW0 : Hid (Old w (((w.alloc (.cells (gc P Q G H a m cap) 25)).alloc (.cells (jvc label y bi l ci bo no co bρ nρ cρ bR nR cR bS nS cS bT nT cT bD nD cD) 33)).alloc (.cells #[.slice ba na ca, .int .u64 X, .slice bb nb cb, .int .u64 Y, .int .u64 Z, .slice bp np cp] 41))) := HZ.old
  clear HZ hin
  go_enter Tryz.func5, Tryz.ntmps5
  go_upto_region 1 with fail
  generalize (((w.alloc (.cells (gc P Q G H a m cap) 25)).alloc (.cells (jvc label y bi l ci bo no co bρ nρ cρ bR nR cR bS nS cS bT nT cT bD nD cD) 33)).alloc (.cells #[.slice ba na ca, .int .u64 X, .slice bb nb cb, .int .u64 Y, .int .u64 Z, .slice bp np cp] 41)) = W at *
  have HG : Hid (∀ wx, Old W wx → wx.heap[w.heap.size]? = some (.cells (gc P Q G H a m cap) 25 (0, 0))) := HG0
  have HJ : Hid (∀ wx, Old W wx → wx.heap[w.heap.size + 1]? = some (.cells (jvc label y bi l ci bo no co bρ nρ cρ bR nR cR bS nS cS bT nT cT bD nD cD) 33 (0, 0))) := HJ0
  have HX : Hid (∀ wx, Old W wx → wx.heap[w.heap.size + 1 + 1]? = some (.cells #[.slice ba na ca, .int .u64 X, .slice bb nb cb, .int .u64 Y, .int .u64 Z, .slice bp np cp] 41 (0, 0))) := HX0
  clear HG0 HJ0 HX0
  obtain ⟨gb, hgb⟩ : ∃ gb, gb = w.heap.size := ⟨_, rfl⟩
  rw [← hgb] at HG HJ HX
  rw [← hgb]
  clear hgb
  have HGc : Hid (∀ wx, Old W wx → wx.cell? ⟨gb, 0, none⟩ = some (.int .u64 P) ∧ wx.cell? ⟨gb, 1, none⟩ = some (.int .u64 Q) ∧ wx.cell? ⟨gb, 2, none⟩ = some (.int .u64 G) ∧ wx.cell? ⟨gb, 3, none⟩ = some (.int .u64 H) ∧ wx.cell? ⟨gb, 4, none⟩ = some (.slice a m cap)) := fun wx ho => ⟨cell_of_row _ _ 0 _ _ (0, 0) (HG.out _ ho), cell_of_row _ _ 1 _ _ (0, 0) (HG.out _ ho), cell_of_row _ _ 2 _ _ (0, 0) (HG.out _ ho), cell_of_row _ _ 3 _ _ (0, 0) (HG.out _ ho), cell_of_row _ _ 4 _ _ (0, 0) (HG.out _ ho)⟩
  have HJc : Hid (∀ wx, Old W wx → wx.cell? ⟨gb + 1, 0, none⟩ = some (.string (strOfNums label)) ∧ wx.cell? ⟨gb + 1, 1, none⟩ = some (.int .u64 y) ∧ wx.cell? ⟨gb + 1, 2, none⟩ = some (.slice bi l ci) ∧ wx.cell? ⟨gb + 1, 3, none⟩ = some (.slice bo no co) ∧ wx.cell? ⟨gb + 1, 4, none⟩ = some (.slice bρ nρ cρ) ∧ wx.cell? ⟨gb + 1, 5, none⟩ = some (.slice bR nR cR) ∧ wx.cell? ⟨gb + 1, 6, none⟩ = some (.slice bS nS cS) ∧ wx.cell? ⟨gb + 1, 7, none⟩ = some (.slice bT nT cT) ∧ wx.cell? ⟨gb + 1, 8, none⟩ = some (.slice bD nD cD)) := fun wx ho => ⟨cell_of_row _ _ 0 _ _ (0, 0) (HJ.out _ ho), cell_of_row _ _ 1 _ _ (0, 0) (HJ.out _ ho), cell_of_row _ _ 2 _ _ (0, 0) (HJ.out _ ho), cell_of_row _ _ 3 _ _ (0, 0) (HJ.out _ ho), cell_of_row _ _ 4 _ _ (0, 0) (HJ.out _ ho), cell_of_row _ _ 5 _ _ (0, 0) (HJ.out _ ho), cell_of_row _ _ 6 _ _ (0, 0) (HJ.out _ ho), cell_of_row _ _ 7 _ _ (0, 0) (HJ.out _ ho), cell_of_row _ _ 8 _ _ (0, 0) (HJ.out _ ho)⟩
  have HXc : Hid (∀ wx, Old W wx → wx.cell? ⟨gb + 1 + 1, 0, none⟩ = some (.slice ba na ca) ∧ wx.cell? ⟨gb + 1 + 1, 1, none⟩ = some (.int .u64 X) ∧ wx.cell? ⟨gb + 1 + 1, 2, none⟩ = some (.slice bb nb cb) ∧ wx.cell? ⟨gb + 1 + 1, 3, none⟩ = some (.int .u64 Y) ∧ wx.cell? ⟨gb + 1 + 1, 4, none⟩ = some (.int .u64 Z) ∧ wx.cell? ⟨gb + 1 + 1, 5, none⟩ = some (.slice bp np cp)) := fun wx ho => ⟨cell_of_row _ _ 0 _ _ (0, 0) (HX.out _ ho), cell_of_row _ _ 1 _ _ (0, 0) (HX.out _ ho), cell_of_row _ _ 2 _ _ (0, 0) (HX.out _ ho), cell_of_row _ _ 3 _ _ (0, 0) (HX.out _ ho), cell_of_row _ _ 4 _ _ (0, 0) (HX.out _ ho), cell_of_row _ _ 5 _ _ (0, 0) (HX.out _ ho)⟩
  go_upto_region 3 with (go_at_call 12; refine (HA.out _).mono ?_; rintro e w1 ⟨rfl, h1⟩)
  have HO1 : Hid (Old W w1) := h1
  clear h1 HA
  obtain ⟨g0, g1, g2, g3, g4⟩ := HGc.out _ HO1.out
  cases hg : (fewB RL m && rightI P Q G H N A RF RL m)
  · rw [hg] at HU
    clear hg ha h4 hC hO hρ hR hS hT hD hX hY hZ hA hB hP
    go_wp2_with (go_at_call 13; refine (HU.out _ (HW0.out.trans HO1.out)).mono ?_; rintro e w3 ⟨rfl, o3⟩)
    go_ret
    exact ⟨rfl, (HW0.out.trans HO1.out).trans o3⟩
  have hg' := (Bool.and_eq_true_iff.1 hg).2
  have hr := right_righ ha hg'
  have hh := right_h hg'
  rw [hg] at HU
  clear hg hg' ha
  cases hf : fewJ label.length l no nρ nR nS nT nD
  · rw [hf] at HL
    clear hf h4 hC hO hρ hR hS hT hD hr hX hY hZ hA hB hP
    go_wp2_with (first
      | (go_at_call 13; refine (HU.out _ (HW0.out.trans HO1.out)).mono ?_; rintro e w3 ⟨rfl, o3⟩; obtain ⟨j0, j1, j2, j3, j4, j5, j6, j7, j8⟩ := HJc.out _ (HO1.out.trans o3))
      | (go_at_call 14; refine (HL.out _).mono ?_; rintro e w4 ⟨rfl, o4⟩))
    go_ret
    exact ⟨rfl, ((HW0.out.trans HO1.out).trans o3).trans o4⟩
  rw [hf] at HL
  obtain ⟨⟨hll, ml, mo⟩, mρ, mR, mS, mT, mD⟩ := fewJ_iff.1 hf
  clear hf
  by_cases hl0 : na ≤ 10
  rotate_left
  · have k0 : (10 : Int) < (na : Int) := by omega
    clear h4 hC hO hρ hR hS hT hD hr hX hY hZ hA hB hP
    go_wp2_with (first
      | (go_at_call 13; refine (HU.out _ (HW0.out.trans HO1.out)).mono ?_; rintro e w3 ⟨rfl, o3⟩; obtain ⟨j0, j1, j2, j3, j4, j5, j6, j7, j8⟩ := HJc.out _ (HO1.out.trans o3))
      | (go_at_call 14; refine (HL.out _).mono ?_; rintro e w4 ⟨rfl, o4⟩; obtain ⟨x0, x1, x2, x3, x4, x5⟩ := HXc.out _ ((HO1.out.trans o3).trans o4)))
    go_ret
    exact ⟨rfl, ((HW0.out.trans HO1.out).trans o3).trans o4⟩
  have k0 : ¬ (10 : Int) < (na : Int) := by omega
  by_cases hl1 : nb ≤ 10
  rotate_left
  · have k1 : (10 : Int) < (nb : Int) := by omega
    clear h4 hC hO hρ hR hS hT hD hr hX hY hZ hA hB hP
    go_wp2_with (first
      | (go_at_call 13; refine (HU.out _ (HW0.out.trans HO1.out)).mono ?_; rintro e w3 ⟨rfl, o3⟩; obtain ⟨j0, j1, j2, j3, j4, j5, j6, j7, j8⟩ := HJc.out _ (HO1.out.trans o3))
      | (go_at_call 14; refine (HL.out _).mono ?_; rintro e w4 ⟨rfl, o4⟩; obtain ⟨x0, x1, x2, x3, x4, x5⟩ := HXc.out _ ((HO1.out.trans o3).trans o4)))
    go_ret
    exact ⟨rfl, ((HW0.out.trans HO1.out).trans o3).trans o4⟩
  have k1 : ¬ (10 : Int) < (nb : Int) := by omega
  by_cases hl2 : np ≤ 10
  rotate_left
  · have k2 : (10 : Int) < (np : Int) := by omega
    clear h4 hC hO hρ hR hS hT hD hr hX hY hZ hA hB hP
    go_wp2_with (first
      | (go_at_call 13; refine (HU.out _ (HW0.out.trans HO1.out)).mono ?_; rintro e w3 ⟨rfl, o3⟩; obtain ⟨j0, j1, j2, j3, j4, j5, j6, j7, j8⟩ := HJc.out _ (HO1.out.trans o3))
      | (go_at_call 14; refine (HL.out _).mono ?_; rintro e w4 ⟨rfl, o4⟩; obtain ⟨x0, x1, x2, x3, x4, x5⟩ := HXc.out _ ((HO1.out.trans o3).trans o4)))
    go_ret
    exact ⟨rfl, ((HW0.out.trans HO1.out).trans o3).trans o4⟩
  have k2 : ¬ (10 : Int) < (np : Int) := by omega
  cases hm : mixB P Q y l C no O nρ with
  | false =>
    have HRm : Hid (∀ wx, Old w wx → Calls Tryz.prog 16 #[gv P Q G H a m cap, .int .u64 y, .slice bi l ci, .slice bo no co, .slice bρ nρ cρ] wx fun e w' => Old wx w' ∧ ∃ b c, e = .returned (.tuple #[.slice b 0 c, .bool false]) ∧ BoxF w' b 0 (mixC P Q G y C O Rh)) := fun wx ho => (rmix8_any P Q G H a m cap y bi l ci C bo no co O bρ nρ cρ Rh wx h4 hr hy (by omega) (by omega) (by omega) (hC.old ho) (hO.old ho) (hρ.old ho)).mono fun e w' h => by rw [hm] at h; exact h
    obtain ⟨MO, hMO⟩ : ∃ MO, MO = C := ⟨_, rfl⟩
    have HOk : ∀ wx b, BoxsIn wx b l MO → ∀ j k, j < l → k < 6 → U64 (MO j k) := fun wx b h j k hj hk => h.u64 hj hk
    have hok8 : clmB P Q G y l C l MO na A1 nb B np Pp Y Z = true → l ≤ 8 ∧ l = l ∧ na = l ∧ nb = l ∧ np = l := fun h => by
      unfold clmB at h
      rw [Bool.and_eq_true_iff] at h
      obtain ⟨⟨h1, h8⟩, e1, e2, e3, e4⟩ := fitB_iff.1 h.1
      exact ⟨h8, e1, e2, e3, e4⟩
    have hTu : clmB P Q G y l C l MO na A1 nb B np Pp Y Z = true → ∀ j, U64 ((tgtT P Q G X Y Z l A1 B Pp (fun j w => C j (2 * w)) (fun j w => C j (2 * w + 1))) j) := fun h => have := hok8 h; u64_tgt (fun i hi => hA.u64 i (by omega)) (fun i hi => hB.u64 i (by omega)) (fun i hi => hP.u64 i (by omega))
    have hBu : (∀ j k, j < l → k < 6 → U64 (MO j k)) → clmB P Q G y l C l MO na A1 nb B np Pp Y Z = true → ∀ j, j < 4 * l + 6 → ∀ k, U64 ((bas8 l Pp G H y (fun j w => MO j (2 * w)) (fun j w => MO j (2 * w + 1))) j k) := fun hu h => have := hok8 h; u64_bas ⟨h4.g0, h4.g1⟩ ⟨h4.h0, h4.h1⟩ hy (fun i hi => hP.u64 i (by omega)) (fun i k hi hk => hu i k (by omega) hk)
    obtain ⟨ok, hok⟩ : ∃ ok, ok = clmB P Q G y l C l MO na A1 nb B np Pp Y Z := ⟨_, rfl⟩
    have HSc : Hid (∀ wx b c, Old w wx → BoxsIn wx b l MO → Calls Tryz.prog 28 #[gv P Q G H a m cap, .int .u64 y, .slice bi l ci, .slice b l c, tk ba na ca X bb nb cb Y Z bp np cp] wx fun e w' => ∃ bt ct b2 c2 BA Cc, e = .returned (.tuple #[cv bt (if ok then 4 * l + 6 else 0) ct b2 (if ok then 4 * l + 6 else 0) c2, .bool ok]) ∧ Old wx w' ∧ ClaimIn w' bt (if ok then 4 * l + 6 else 0) ct (tgtT P Q G X Y Z l A1 B Pp (fun j w => C j (2 * w)) (fun j w => C j (2 * w + 1))) b2 (if ok then 4 * l + 6 else 0) c2 BA (fun _ => 7 * l + 3) Cc (bas8 l Pp G H y (fun j w => MO j (2 * w)) (fun j w => MO j (2 * w + 1)))) := fun wx b c ho hb => by
      have h := sclaim_any P Q G H a m cap y bi l ci C b l c MO ba na ca A1 X bb nb cb B Y Z bp np cp Pp wx (by omega) h4 hr hy hX hY hZ (hC.old ho) hb (hA.old ho) (hB.old ho) (hP.old ho)
      rw [← hok] at h
      exact h.mono fun e w' hd => GivD.any hd (fun hk j _ => hTu (hok ▸ hk) j) (fun hk j hj i _ => hBu (HOk wx b hb) (hok ▸ hk) j hj i)
    have HRc : Hid (∀ wx b c, Old w wx → BoxsIn wx b l MO → Calls Tryz.prog 29 #[gv P Q G H a m cap, .int .u64 y, .slice bi l ci, .slice b l c, tk ba na ca X bb nb cb Y Z bp np cp] wx fun e w' => ∃ bt ct b2 c2 BA Cc, e = .returned (.tuple #[cv bt (if ok then 4 * l + 6 else 0) ct b2 (if ok then 4 * l + 6 else 0) c2, .bool ok]) ∧ Old wx w' ∧ ClaimIn w' bt (if ok then 4 * l + 6 else 0) ct (tgtT P Q G X Y Z l A1 B Pp (fun j w => C j (2 * w)) (fun j w => C j (2 * w + 1))) b2 (if ok then 4 * l + 6 else 0) c2 BA (fun _ => 7 * l + 3) Cc (bas8 l Pp G H y (fun j w => MO j (2 * w)) (fun j w => MO j (2 * w + 1)))) := fun wx b c ho hb => by
      have h := rclaim8_any P Q G H a m cap y bi l ci C b l c MO ba na ca A1 X bb nb cb B Y Z bp np cp Pp wx (by omega) (by omega) (by omega) (by omega) (by omega) h4 hy hX hY hZ (hC.old ho) hb (hA.old ho) (hB.old ho) (hP.old ho)
      rw [← hok] at h
      exact h.mono fun e w' hd => GivD.any hd (fun hk j _ => hTu (hok ▸ hk) j) (fun hk j hj i _ => hBu (HOk wx b hb) (hok ▸ hk) j hj i)
    have HBi : Hid (∀ wx, Old w wx → BoxsIn wx bi l C) := fun wx ho => hC.old ho
    have HMO : Hid (MO = C) := hMO
    clear hm h4 hC hO hρ hR hS hT hD hr hX hY hZ hA hB hP hy hok hTu hBu hok8 HOk hMO hl0 hl1 hl2
    generalize (tgtT P Q G X Y Z l A1 B Pp (fun j w => C j (2 * w)) (fun j w => C j (2 * w + 1))) = Tg at *
    generalize (bas8 l Pp G H y (fun j w => MO j (2 * w)) (fun j w => MO j (2 * w + 1))) = Bg at *
    generalize (if ok then 4 * l + 6 else 0) = nt at *
    generalize (mixC P Q G y C O Rh) = M at *
    go_upto_region 5 with (first
        | (go_at_call 13; refine (HU.out _ (HW0.out.trans HO1.out)).mono ?_; rintro e w3 ⟨rfl, o3⟩; obtain ⟨j0, j1, j2, j3, j4, j5, j6, j7, j8⟩ := HJc.out _ (HO1.out.trans o3))
        | (go_at_call 14; refine (HL.out _).mono ?_; rintro e w4 ⟨rfl, o4⟩; obtain ⟨x0, x1, x2, x3, x4, x5⟩ := HXc.out _ ((HO1.out.trans o3).trans o4)))
    have HO4 : Hid (Old W w4) := (HO1.out.trans o3).trans o4
    clear o3 o4 HU HL HO1 j0 j1 j2 j3 j4 j5 j6 j7 j8 g0 g1 g2 g3 g4 x0 x1 x2 x3 x4 x5 k0 k1 k2
    obtain ⟨g0, g1, g2, g3, g4⟩ := HGc.out _ HO4.out
    obtain ⟨j0, j1, j2, j3, j4, j5, j6, j7, j8⟩ := HJc.out _ HO4.out
    go_upto_region 6 with (go_at_call 16; refine (HRm.out _ (HW0.out.trans HO4.out)).mono ?_; rintro e w5 ⟨o5, b1, c1, rfl, hb1⟩)
    clear g0 g1 g2 g3 g4 j0 j1 j2 j3 j4 j5 j6 j7 j8
    have HO5 : Hid (Old W w5) := HO4.out.trans o5
    have HB1 : Hid (BoxF w5 b1 0 M) := hb1
    clear hb1 o5 HRm
    obtain ⟨j0, j1, j2, j3, j4, j5, j6, j7, j8⟩ := HJc.out _ HO5.out
    go_upto_region 8 with fail
    clear j0 j1 j2 j3 j4 j5 j6 j7 j8
    obtain ⟨g0, g1, g2, g3, g4⟩ := HGc.out _ HO5.out
    obtain ⟨j0, j1, j2, j3, j4, j5, j6, j7, j8⟩ := HJc.out _ HO5.out
    obtain ⟨x0, x1, x2, x3, x4, x5⟩ := HXc.out _ HO5.out
    have HBo : Hid (∀ wx, Old w5 wx → BoxsIn wx bi l MO) := fun wx ho => by rw [HMO.out]; exact HBi.out _ ((HW0.out.trans HO5.out).trans ho)
    go_upto_region 9 with (go_at_call 28; refine (HSc.out _ _ _ (HW0.out.trans HO5.out) (HBo.out _ (Old.refl _))).mono ?_; rintro e w6 ⟨bt, ct, b2, c2, BA, Cc, rfl, o6, hcl⟩)
    clear g0 g1 g2 g3 g4 j0 j1 j2 j3 j4 j5 j6 j7 j8 x0 x1 x2 x3 x4 x5 HSc
    have HOc : Old w6 (w6.alloc (.cells #[.slice bt nt ct, .slice b2 nt c2] 50)) := (Old.refl _).alloc _
    have HO7 : Hid (Old w5 (w6.alloc (.cells #[.slice bt nt ct, .slice b2 nt c2] 50))) := o6.trans HOc
    have HC7 : Hid (ClaimIn (w6.alloc (.cells #[.slice bt nt ct, .slice b2 nt c2] 50)) bt nt ct Tg b2 nt c2 BA (fun _ => 7 * l + 3) Cc Bg) := hcl.old HOc
    have HD7 : Hid ((w6.alloc (.cells #[.slice bt nt ct, .slice b2 nt c2] 50)).heap[w6.heap.size]? = some (.cells #[.slice bt nt ct, .slice b2 nt c2] 50 (0, 0))) := heap_alloc_last w6 _
    clear HOc hcl o6
    generalize w6.alloc (.cells #[.slice bt nt ct, .slice b2 nt c2] 50) = w7 at *
    generalize w6.heap.size = cb1 at *
    obtain ⟨g0, g1, g2, g3, g4⟩ := HGc.out _ (HO5.out.trans HO7.out)
    obtain ⟨j0, j1, j2, j3, j4, j5, j6, j7, j8⟩ := HJc.out _ (HO5.out.trans HO7.out)
    obtain ⟨x0, x1, x2, x3, x4, x5⟩ := HXc.out _ (HO5.out.trans HO7.out)
    go_upto_region 10 with (go_at_call 29; refine (HRc.out _ _ _ ((HW0.out.trans HO5.out).trans HO7.out) (HBo.out _ HO7.out)).mono ?_; rintro e w8 ⟨bt', ct', b2', c2', BA', Cc', rfl, o8, hcl⟩)
    clear g0 g1 g2 g3 g4 j0 j1 j2 j3 j4 j5 j6 j7 j8 x0 x1 x2 x3 x4 x5 HRc
    have HOc : Old w8 (w8.alloc (.cells #[.slice bt' nt ct', .slice b2' nt c2'] 50)) := (Old.refl _).alloc _
    have HO9 : Hid (Old w7 (w8.alloc (.cells #[.slice bt' nt ct', .slice b2' nt c2'] 50))) := o8.trans HOc
    have HC9 : Hid (ClaimIn (w8.alloc (.cells #[.slice bt' nt ct', .slice b2' nt c2'] 50)) bt' nt ct' Tg b2' nt c2' BA' (fun _ => 7 * l + 3) Cc' Bg) := hcl.old HOc
    have hrow := heap_alloc_last w8 (.cells #[.slice bt' nt ct', .slice b2' nt c2'] 50)
    have hrow7 := (HO9.out.block _ (obj_lt HD7.out)).trans HD7.out
    have d0 := cell_of_row _ _ 0 _ _ (0, 0) hrow
    have d1 := cell_of_row _ _ 1 _ _ (0, 0) hrow
    have c0 := cell_of_row _ _ 0 _ _ (0, 0) hrow7
    have c1 := cell_of_row _ _ 1 _ _ (0, 0) hrow7
    have HAl : Hid (∀ wx, Old (w8.alloc (.cells #[.slice bt' nt ct', .slice b2' nt c2'] 50)) wx → Calls Tryz.prog 30 #[cv bt nt ct b2 nt c2, cv bt' nt ct' b2' nt c2'] wx (Ret wx (.bool true))) := fun wx ho => ralike_any bt nt ct Tg b2 nt c2 BA _ Cc Bg bt' ct' b2' c2' BA' Cc' wx ((HC7.out.old HO9.out).old ho) (HC9.out.old ho)
    clear hrow hrow7 HOc hcl o8
    generalize w8.alloc (.cells #[.slice bt' nt ct', .slice b2' nt c2'] 50) = w9 at *
    generalize w8.heap.size = cb2 at *
    have kk : (ok == ok) = true := by simp
    go_wp2_with (go_at_call 30; refine (HAl.out _ (Old.refl _)).mono ?_; rintro e wa ⟨rfl, oa⟩)
    go_ret
    exact ⟨rfl, (((HW0.out.trans HO5.out).trans HO7.out).trans HO9.out).trans oa⟩
  | true =>
    have HRm : Hid (∀ wx, Old w wx → Calls Tryz.prog 16 #[gv P Q G H a m cap, .int .u64 y, .slice bi l ci, .slice bo no co, .slice bρ nρ cρ] wx fun e w' => Old wx w' ∧ ∃ b c, e = .returned (.tuple #[.slice b l c, .bool true]) ∧ BoxF w' b l (mixC P Q G y C O Rh)) := fun wx ho => (rmix8_any P Q G H a m cap y bi l ci C bo no co O bρ nρ cρ Rh wx h4 hr hy (by omega) (by omega) (by omega) (hC.old ho) (hO.old ho) (hρ.old ho)).mono fun e w' h => by rw [hm] at h; exact h
    obtain ⟨MO, hMO⟩ : ∃ MO, MO = (mixC P Q G y C O Rh) := ⟨_, rfl⟩
    have HOk : ∀ wx b, BoxsIn wx b l MO → ∀ j k, j < l → k < 6 → U64 (MO j k) := fun wx b h j k hj hk => h.u64 hj hk
    have hok8 : clmB P Q G y l C l MO na A1 nb B np Pp Y Z = true → l ≤ 8 ∧ l = l ∧ na = l ∧ nb = l ∧ np = l := fun h => by
      unfold clmB at h
      rw [Bool.and_eq_true_iff] at h
      obtain ⟨⟨h1, h8⟩, e1, e2, e3, e4⟩ := fitB_iff.1 h.1
      exact ⟨h8, e1, e2, e3, e4⟩
    have hTu : clmB P Q G y l C l MO na A1 nb B np Pp Y Z = true → ∀ j, U64 ((tgtT P Q G X Y Z l A1 B Pp (fun j w => C j (2 * w)) (fun j w => C j (2 * w + 1))) j) := fun h => have := hok8 h; u64_tgt (fun i hi => hA.u64 i (by omega)) (fun i hi => hB.u64 i (by omega)) (fun i hi => hP.u64 i (by omega))
    have hBu : (∀ j k, j < l → k < 6 → U64 (MO j k)) → clmB P Q G y l C l MO na A1 nb B np Pp Y Z = true → ∀ j, j < 4 * l + 6 → ∀ k, U64 ((bas8 l Pp G H y (fun j w => MO j (2 * w)) (fun j w => MO j (2 * w + 1))) j k) := fun hu h => have := hok8 h; u64_bas ⟨h4.g0, h4.g1⟩ ⟨h4.h0, h4.h1⟩ hy (fun i hi => hP.u64 i (by omega)) (fun i k hi hk => hu i k (by omega) hk)
    obtain ⟨ok, hok⟩ : ∃ ok, ok = clmB P Q G y l C l MO na A1 nb B np Pp Y Z := ⟨_, rfl⟩
    have HSc : Hid (∀ wx b c, Old w wx → BoxsIn wx b l MO → Calls Tryz.prog 28 #[gv P Q G H a m cap, .int .u64 y, .slice bi l ci, .slice b l c, tk ba na ca X bb nb cb Y Z bp np cp] wx fun e w' => ∃ bt ct b2 c2 BA Cc, e = .returned (.tuple #[cv bt (if ok then 4 * l + 6 else 0) ct b2 (if ok then 4 * l + 6 else 0) c2, .bool ok]) ∧ Old wx w' ∧ ClaimIn w' bt (if ok then 4 * l + 6 else 0) ct (tgtT P Q G X Y Z l A1 B Pp (fun j w => C j (2 * w)) (fun j w => C j (2 * w + 1))) b2 (if ok then 4 * l + 6 else 0) c2 BA (fun _ => 7 * l + 3) Cc (bas8 l Pp G H y (fun j w => MO j (2 * w)) (fun j w => MO j (2 * w + 1)))) := fun wx b c ho hb => by
      have h := sclaim_any P Q G H a m cap y bi l ci C b l c MO ba na ca A1 X bb nb cb B Y Z bp np cp Pp wx (by omega) h4 hr hy hX hY hZ (hC.old ho) hb (hA.old ho) (hB.old ho) (hP.old ho)
      rw [← hok] at h
      exact h.mono fun e w' hd => GivD.any hd (fun hk j _ => hTu (hok ▸ hk) j) (fun hk j hj i _ => hBu (HOk wx b hb) (hok ▸ hk) j hj i)
    have HRc : Hid (∀ wx b c, Old w wx → BoxsIn wx b l MO → Calls Tryz.prog 29 #[gv P Q G H a m cap, .int .u64 y, .slice bi l ci, .slice b l c, tk ba na ca X bb nb cb Y Z bp np cp] wx fun e w' => ∃ bt ct b2 c2 BA Cc, e = .returned (.tuple #[cv bt (if ok then 4 * l + 6 else 0) ct b2 (if ok then 4 * l + 6 else 0) c2, .bool ok]) ∧ Old wx w' ∧ ClaimIn w' bt (if ok then 4 * l + 6 else 0) ct (tgtT P Q G X Y Z l A1 B Pp (fun j w => C j (2 * w)) (fun j w => C j (2 * w + 1))) b2 (if ok then 4 * l + 6 else 0) c2 BA (fun _ => 7 * l + 3) Cc (bas8 l Pp G H y (fun j w => MO j (2 * w)) (fun j w => MO j (2 * w + 1)))) := fun wx b c ho hb => by
      have h := rclaim8_any P Q G H a m cap y bi l ci C b l c MO ba na ca A1 X bb nb cb B Y Z bp np cp Pp wx (by omega) (by omega) (by omega) (by omega) (by omega) h4 hy hX hY hZ (hC.old ho) hb (hA.old ho) (hB.old ho) (hP.old ho)
      rw [← hok] at h
      exact h.mono fun e w' hd => GivD.any hd (fun hk j _ => hTu (hok ▸ hk) j) (fun hk j hj i _ => hBu (HOk wx b hb) (hok ▸ hk) j hj i)
    have HBi : Hid (∀ wx, Old w wx → BoxsIn wx bi l C) := fun wx ho => hC.old ho
    have HMO : Hid (MO = (mixC P Q G y C O Rh)) := hMO
    clear hm h4 hC hO hρ hR hS hT hD hr hX hY hZ hA hB hP hy hok hTu hBu hok8 HOk hMO hl0 hl1 hl2
    generalize (tgtT P Q G X Y Z l A1 B Pp (fun j w => C j (2 * w)) (fun j w => C j (2 * w + 1))) = Tg at *
    generalize (bas8 l Pp G H y (fun j w => MO j (2 * w)) (fun j w => MO j (2 * w + 1))) = Bg at *
    generalize (if ok then 4 * l + 6 else 0) = nt at *
    generalize (mixC P Q G y C O Rh) = M at *
    go_upto_region 5 with (first
        | (go_at_call 13; refine (HU.out _ (HW0.out.trans HO1.out)).mono ?_; rintro e w3 ⟨rfl, o3⟩; obtain ⟨j0, j1, j2, j3, j4, j5, j6, j7, j8⟩ := HJc.out _ (HO1.out.trans o3))
        | (go_at_call 14; refine (HL.out _).mono ?_; rintro e w4 ⟨rfl, o4⟩; obtain ⟨x0, x1, x2, x3, x4, x5⟩ := HXc.out _ ((HO1.out.trans o3).trans o4)))
    have HO4 : Hid (Old W w4) := (HO1.out.trans o3).trans o4
    clear o3 o4 HU HL HO1 j0 j1 j2 j3 j4 j5 j6 j7 j8 g0 g1 g2 g3 g4 x0 x1 x2 x3 x4 x5 k0 k1 k2
    obtain ⟨g0, g1, g2, g3, g4⟩ := HGc.out _ HO4.out
    obtain ⟨j0, j1, j2, j3, j4, j5, j6, j7, j8⟩ := HJc.out _ HO4.out
    go_upto_region 6 with (go_at_call 16; refine (HRm.out _ (HW0.out.trans HO4.out)).mono ?_; rintro e w5 ⟨o5, b1, c1, rfl, hb1⟩)
    clear g0 g1 g2 g3 g4 j0 j1 j2 j3 j4 j5 j6 j7 j8
    have HO5 : Hid (Old W w5) := HO4.out.trans o5
    have HB1 : Hid (BoxF w5 b1 l M) := hb1
    clear hb1 o5 HRm
    obtain ⟨j0, j1, j2, j3, j4, j5, j6, j7, j8⟩ := HJc.out _ HO5.out
    go_upto_region 8 with fail
    clear j0 j1 j2 j3 j4 j5 j6 j7 j8
    obtain ⟨g0, g1, g2, g3, g4⟩ := HGc.out _ HO5.out
    obtain ⟨j0, j1, j2, j3, j4, j5, j6, j7, j8⟩ := HJc.out _ HO5.out
    obtain ⟨x0, x1, x2, x3, x4, x5⟩ := HXc.out _ HO5.out
    have HBo : Hid (∀ wx, Old w5 wx → BoxsIn wx b1 l MO) := fun wx ho => by rw [HMO.out]; exact (HB1.out.old ho).boxs
    go_upto_region 9 with (go_at_call 28; refine (HSc.out _ _ _ (HW0.out.trans HO5.out) (HBo.out _ (Old.refl _))).mono ?_; rintro e w6 ⟨bt, ct, b2, c2, BA, Cc, rfl, o6, hcl⟩)
    clear g0 g1 g2 g3 g4 j0 j1 j2 j3 j4 j5 j6 j7 j8 x0 x1 x2 x3 x4 x5 HSc
    have HOc : Old w6 (w6.alloc (.cells #[.slice bt nt ct, .slice b2 nt c2] 50)) := (Old.refl _).alloc _
    have HO7 : Hid (Old w5 (w6.alloc (.cells #[.slice bt nt ct, .slice b2 nt c2] 50))) := o6.trans HOc
    have HC7 : Hid (ClaimIn (w6.alloc (.cells #[.slice bt nt ct, .slice b2 nt c2] 50)) bt nt ct Tg b2 nt c2 BA (fun _ => 7 * l + 3) Cc Bg) := hcl.old HOc
    have HD7 : Hid ((w6.alloc (.cells #[.slice bt nt ct, .slice b2 nt c2] 50)).heap[w6.heap.size]? = some (.cells #[.slice bt nt ct, .slice b2 nt c2] 50 (0, 0))) := heap_alloc_last w6 _
    clear HOc hcl o6
    generalize w6.alloc (.cells #[.slice bt nt ct, .slice b2 nt c2] 50) = w7 at *
    generalize w6.heap.size = cb1 at *
    obtain ⟨g0, g1, g2, g3, g4⟩ := HGc.out _ (HO5.out.trans HO7.out)
    obtain ⟨j0, j1, j2, j3, j4, j5, j6, j7, j8⟩ := HJc.out _ (HO5.out.trans HO7.out)
    obtain ⟨x0, x1, x2, x3, x4, x5⟩ := HXc.out _ (HO5.out.trans HO7.out)
    go_upto_region 10 with (go_at_call 29; refine (HRc.out _ _ _ ((HW0.out.trans HO5.out).trans HO7.out) (HBo.out _ HO7.out)).mono ?_; rintro e w8 ⟨bt', ct', b2', c2', BA', Cc', rfl, o8, hcl⟩)
    clear g0 g1 g2 g3 g4 j0 j1 j2 j3 j4 j5 j6 j7 j8 x0 x1 x2 x3 x4 x5 HRc
    have HOc : Old w8 (w8.alloc (.cells #[.slice bt' nt ct', .slice b2' nt c2'] 50)) := (Old.refl _).alloc _
    have HO9 : Hid (Old w7 (w8.alloc (.cells #[.slice bt' nt ct', .slice b2' nt c2'] 50))) := o8.trans HOc
    have HC9 : Hid (ClaimIn (w8.alloc (.cells #[.slice bt' nt ct', .slice b2' nt c2'] 50)) bt' nt ct' Tg b2' nt c2' BA' (fun _ => 7 * l + 3) Cc' Bg) := hcl.old HOc
    have hrow := heap_alloc_last w8 (.cells #[.slice bt' nt ct', .slice b2' nt c2'] 50)
    have hrow7 := (HO9.out.block _ (obj_lt HD7.out)).trans HD7.out
    have d0 := cell_of_row _ _ 0 _ _ (0, 0) hrow
    have d1 := cell_of_row _ _ 1 _ _ (0, 0) hrow
    have c0 := cell_of_row _ _ 0 _ _ (0, 0) hrow7
    have c1 := cell_of_row _ _ 1 _ _ (0, 0) hrow7
    have HAl : Hid (∀ wx, Old (w8.alloc (.cells #[.slice bt' nt ct', .slice b2' nt c2'] 50)) wx → Calls Tryz.prog 30 #[cv bt nt ct b2 nt c2, cv bt' nt ct' b2' nt c2'] wx (Ret wx (.bool true))) := fun wx ho => ralike_any bt nt ct Tg b2 nt c2 BA _ Cc Bg bt' ct' b2' c2' BA' Cc' wx ((HC7.out.old HO9.out).old ho) (HC9.out.old ho)
    clear hrow hrow7 HOc hcl o8
    generalize w8.alloc (.cells #[.slice bt' nt ct', .slice b2' nt c2'] 50) = w9 at *
    generalize w8.heap.size = cb2 at *
    have kk : (ok == ok) = true := by simp
    go_wp2_with (go_at_call 30; refine (HAl.out _ (Old.refl _)).mono ?_; rintro e wa ⟨rfl, oa⟩)
    go_ret
    exact ⟨rfl, (((HW0.out.trans HO5.out).trans HO7.out).trans HO9.out).trans oa⟩

end Go.Proofs.YtlnmjbbpenhdbaaGreat

namespace Go.Proofs.YtlnmjbbpenhdbaaGreat
open Go.RowKit Go.ChangeShapes Go.WideShapes Go.Deep

section
variable {H : Type} {enc : TypeId × Value → H} {P : Program} {w : World}

theorem cell_lt {b off : Nat} {v : Value} (h : w.cell? ⟨b, off, none⟩ = some v) : b < w.heap.size := by
  refine Classical.byContradiction fun hc => ?_
  have : w.heap[b]? = none := by simp; omega
  simp [World.cell?, this] at h

theorem open_facs {t e : TypeId} {fuel : Nat} {v : Value} {x : DataW H × List MemPlace} (ht : P.underlying t = some (.slice e)) (he : P.underlying e = some (.int .u64)) (hc : P.cellsOf e = 1)
    (h : DataW.trod enc P w 0 (fun _ => true) true fuel t [v] = some x) : ∃ (a : Option Addr) (L C : Nat) (F : Nat → Int), v = .slice a L C ∧ L ≤ C ∧ C ≤ maxLen ∧ FacsIn w a L F := by
  rcases open_ints ht he hc h with ⟨hcs, _⟩ | ⟨a, len, cap, zs, hcs, _, hl, hm, hz, _, hcell, hwz⟩
  · exact ⟨none, 0, 0, fun _ => 0, by simpa using hcs, Nat.le_refl _, Nat.zero_le _, Or.inl rfl⟩
  · simp only [if_true] at hz
    refine ⟨some a, len, cap, fun j => zs.getD j 0, by simpa using hcs, hl, hm, ?_⟩
    by_cases h0 : len = 0
    · exact Or.inl h0
    · obtain ⟨b, off, rfl, hc'⟩ := ints_at hcell (by omega)
      refine Or.inr ⟨b, off, rfl, cell_lt (hc' 0 (by omega)), fun j hj => ⟨hc' j (by omega), ?_⟩⟩
      have hj' : j < zs.length := by omega
      have e : zs.getD j 0 = zs[j] := by simp [List.getD, hj']
      show 0 ≤ zs.getD j 0 ∧ zs.getD j 0 ≤ 18446744073709551615
      rw [e]
      exact bounds_u64 (hwz _ (List.getElem_mem hj'))

theorem open_rows {t e u s : TypeId} {f0 f1 f2 : Field} (ht : P.underlying t = some (.slice e)) (he : P.underlying e = some (.struct #[f0, f1, f2])) (hu : P.underlying u = some (.int .u64)) (hs : P.underlying s = some (.slice u))
    (o0 : f0.offset = 0) (o1 : f1.offset = 1) (o2 : f2.offset = 2) (t0 : f0.type = u) (t1 : f1.type = u) (t2 : f2.type = s) (ce : P.cellsOf e = 3) (cu : P.cellsOf u = 1) (cs : P.cellsOf s = 1)
    {a : Option Addr} {n cap : Nat} {d : DataW H} {p : List MemPlace} (h : DataW.Trod enc P w 0 (fun _ => true) true t (.slice a n cap) d p) :
    n ≤ cap ∧ ∃ (N A : Nat → Int) (FA : Nat → Option Addr) (L C : Nat → Nat) (F : Nat → Nat → Int), RowsIn w a n N A FA L C F := by
  obtain ⟨fuel, hf⟩ := h
  rcases open_slice ht hf with ⟨hcs, _⟩ | ⟨a', len, cap', m, k, D, Pl, hcs, _, hl, hm, hmm, _, hx⟩
  · simp [Value.cells] at hcs
    obtain ⟨rfl, rfl, rfl⟩ := hcs
    exact ⟨Nat.le_refl _, fun _ => 0, fun _ => 0, fun _ => none, fun _ => 0, fun _ => 0, fun _ _ => 0, Or.inl rfl⟩
  simp [Value.cells] at hcs
  obtain ⟨rfl, rfl, rfl⟩ := hcs
  simp only [if_true] at hmm
  subst hmm
  refine ⟨hl, ?_⟩
  by_cases h0 : n = 0
  · exact ⟨fun _ => 0, fun _ => 0, fun _ => none, fun _ => 0, fun _ => 0, fun _ _ => 0, Or.inl h0⟩
  rw [ce] at hx
  -- the address is a plain one
  obtain ⟨b, off, spot⟩ := a'
  have hspot : spot = none := by
    obtain ⟨cs0, hc0, _⟩ := hx 0 (by omega)
    obtain ⟨_, hlen, hcell⟩ := World.cells?_some hc0
    have g := hcell 0 (by omega)
    have : ∃ v, cs0[0]? = some v := ⟨cs0[0], by simp⟩
    obtain ⟨v, hv⟩ := this
    rw [hv] at g
    simpa [Addr.add] using World.cell?_spot g
  subst hspot
  have each : ∀ i, i < m → ∃ y : Int × Int × Option Addr × Nat × Nat × (Nat → Int), RowAt w b (off + i * 3) y.1 y.2.1 y.2.2.1 y.2.2.2.1 y.2.2.2.2.1 y.2.2.2.2.2 := by
    intro i hi
    obtain ⟨cs', h1, h2⟩ := hx i hi
    obtain ⟨_, hlen, hcell⟩ := World.cells?_some h1
    obtain ⟨y0, y1, y2, k', _, _, g0, g1, g2⟩ := trod_struct3 he h2
    match cs', hlen with
    | [v0, v1, v2], _ =>
      simp [o0, o1, o2, t0, t1, t2, cu, cs] at g0 g1 g2
      obtain ⟨x0, e0, _, w0⟩ := DataW.trod_int hu g0
      obtain ⟨x1, e1, _, w1⟩ := DataW.trod_int hu g1
      obtain ⟨fa, L, C, F, e2, hL, hC, hF⟩ := open_facs hs hu cu g2
      simp at e0 e1
      subst e0 e1 e2
      have c0 := hcell 0 (by omega)
      have c1 := hcell 1 (by omega)
      have c2 := hcell 2 (by omega)
      simp only [add_plain] at c0 c1 c2
      have b0 := bounds_u64 w0
      have b1 := bounds_u64 w1
      exact ⟨(x0, x1, fa, L, C, F), by simpa using c0, by simpa using c1, by simpa using c2, b0.1, b0.2, b1.1, b1.2, hL, hC, hF⟩
  obtain ⟨y, hy⟩ := choose_lt each
  refine ⟨fun i => (y i).1, fun i => (y i).2.1, fun i => (y i).2.2.1, fun i => (y i).2.2.2.1, fun i => (y i).2.2.2.2.1, fun i => (y i).2.2.2.2.2, Or.inr ⟨b, off, rfl, cell_lt (hy 0 (by omega)).c0, fun i hi => hy i (by omega)⟩⟩

end
end Go.Proofs.YtlnmjbbpenhdbaaGreat
