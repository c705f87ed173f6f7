/-
  Sizes that fit, and elements all (layer 8).
  The claim of a talk (layer 8).
  The document's Accept and Same (layer 7).
-/
import Derived.Test.YtlnmjbbpenhdbaaGreatKc09
import Derived.Test.YtlnmjbbpenhdbaaGreatKc08
import Derived.Test.YtlnmjbbpenhdbaaGreatKc17
import Derived.Test.YtlnmjbbpenhdbaaGreatKc06
import Derived.Test.YtlnmjbbpenhdbaaGreatKc16
import Derived.Test.YtlnmjbbpenhdbaaGreatKc15
namespace Go.Proofs.YtlnmjbbpenhdbaaGreat
open Go.RowKit
set_option linter.unusedSimpArgs false
set_option linter.unusedVariables false

/-- Do the sizes of batches and of a talk fit? -/
def fitB (l no na nb np : Nat) : Bool := cnt8 l && decide (no = l) && decide (na = l) && decide (nb = l) && decide (np = l)
theorem fitB_iff {l no na nb np : Nat} : fitB l no na nb np = true ↔ (1 ≤ l ∧ l ≤ 8) ∧ no = l ∧ na = l ∧ nb = l ∧ np = l := by
  unfold fitB
  simp only [Bool.and_eq_true_iff, cnt8_iff, decide_eq_true_eq, and_assoc]
set_option maxRecDepth 100000 in
set_option maxHeartbeats 4000000 in
theorem ssizes_any (bi : Option Addr) (l ci : Nat) (bo : Option Addr) (no co : Nat) (ba : Option Addr) (na ca : Nat) (X : Int) (bb : Option Addr) (nb cb : Nat) (Y Z : Int) (bp : Option Addr) (np cp : Nat) (w : World) (hl : l ≤ 9223372036854775807) :
    Calls Tryz.prog 79 #[.slice bi l ci, .slice bo no co, tk ba na ca X bb nb cb Y Z bp np cp] w (Ret w (.bool (fitB l no na nb np))) := by
  have HW0 : Hid (Old w (w.alloc (.cells (tkc ba na ca X bb nb cb Y Z bp np cp) 41))) := (Old.refl _).alloc _
  have HR0 : Hid ((w.alloc (.cells (tkc ba na ca X bb nb cb Y Z bp np cp) 41)).heap[w.heap.size]? = some (.cells (tkc ba na ca X bb nb cb Y Z bp np cp) 41 (0, 0))) := heap_alloc_last _ _
  have HCn : ∀ wx, Calls Tryz.prog 102 #[.int .i64 (l : Int)] wx fun e w' => e = .returned (.bool (cnt8 l)) ∧ w' = wx := fun wx => scount_any l wx hl
  cases hc : cnt8 l with
  | false =>
    have HV : Hid (fitB l no na nb np = false) := by unfold Hid fitB; rw [hc]; simp
    rw [hc] at HCn
    have HCn : Hid (∀ wx, Calls Tryz.prog 102 #[.int .i64 (l : Int)] wx fun e w' => e = .returned (.bool false) ∧ w' = wx) := HCn
    go_enter Tryz.func79, Tryz.ntmps79
    go_upto_region 1 with fail
    generalize w.alloc (.cells (tkc ba na ca X bb nb cb Y Z bp np cp) 41) = W1 at *
    have c0 : W1.cell? ⟨w.heap.size, 0, none⟩ = some (.slice ba na ca) := cell_of_row _ _ 0 _ _ (0, 0) HR0.out
    have c2 : W1.cell? ⟨w.heap.size, 2, none⟩ = some (.slice bb nb cb) := cell_of_row _ _ 2 _ _ (0, 0) HR0.out
    have c5 : W1.cell? ⟨w.heap.size, 5, none⟩ = some (.slice bp np cp) := cell_of_row _ _ 5 _ _ (0, 0) HR0.out
    generalize w.heap.size = gb at *
    go_wp2_with (go_at_call 102; refine (HCn.out _).mono ?_; rintro e w1 ⟨rfl, rfl⟩)
    go_ret
    exact ⟨by rw [HV.out]; first | rfl | (show Ending.returned (.bool ((np : Int) == (l : Int))) = _; rw [show ((np : Int) == (l : Int)) = false by simpa using nnp]), HW0.out⟩
  | true =>
    rw [hc] at HCn
    have HCn : Hid (∀ wx, Calls Tryz.prog 102 #[.int .i64 (l : Int)] wx fun e w' => e = .returned (.bool true) ∧ w' = wx) := HCn
    by_cases hno : l = no
    case neg =>
      have mno : ¬ no = l := fun h => hno h.symm
      have HV : Hid (fitB l no na nb np = false) := by unfold Hid fitB; simp [mno]
      have nno : ¬ (no : Int) = (l : Int) := by omega
      clear hno mno
      go_enter Tryz.func79, Tryz.ntmps79
      go_upto_region 1 with fail
      generalize w.alloc (.cells (tkc ba na ca X bb nb cb Y Z bp np cp) 41) = W1 at *
      have c0 : W1.cell? ⟨w.heap.size, 0, none⟩ = some (.slice ba na ca) := cell_of_row _ _ 0 _ _ (0, 0) HR0.out
      have c2 : W1.cell? ⟨w.heap.size, 2, none⟩ = some (.slice bb nb cb) := cell_of_row _ _ 2 _ _ (0, 0) HR0.out
      have c5 : W1.cell? ⟨w.heap.size, 5, none⟩ = some (.slice bp np cp) := cell_of_row _ _ 5 _ _ (0, 0) HR0.out
      generalize w.heap.size = gb at *
      go_wp2_with (go_at_call 102; refine (HCn.out _).mono ?_; rintro e w1 ⟨rfl, rfl⟩)
      go_ret
      exact ⟨by rw [HV.out]; first | rfl | (show Ending.returned (.bool ((np : Int) == (l : Int))) = _; rw [show ((np : Int) == (l : Int)) = false by simpa using nnp]), HW0.out⟩
    subst hno
    by_cases hna : l = na
    case neg =>
      have mna : ¬ na = l := fun h => hna h.symm
      have HV : Hid (fitB l l na nb np = false) := by unfold Hid fitB; simp [mna]
      have nna : ¬ (na : Int) = (l : Int) := by omega
      clear hna mna
      go_enter Tryz.func79, Tryz.ntmps79
      go_upto_region 1 with fail
      generalize w.alloc (.cells (tkc ba na ca X bb nb cb Y Z bp np cp) 41) = W1 at *
      have c0 : W1.cell? ⟨w.heap.size, 0, none⟩ = some (.slice ba na ca) := cell_of_row _ _ 0 _ _ (0, 0) HR0.out
      have c2 : W1.cell? ⟨w.heap.size, 2, none⟩ = some (.slice bb nb cb) := cell_of_row _ _ 2 _ _ (0, 0) HR0.out
      have c5 : W1.cell? ⟨w.heap.size, 5, none⟩ = some (.slice bp np cp) := cell_of_row _ _ 5 _ _ (0, 0) HR0.out
      generalize w.heap.size = gb at *
      go_wp2_with (go_at_call 102; refine (HCn.out _).mono ?_; rintro e w1 ⟨rfl, rfl⟩)
      go_ret
      exact ⟨by rw [HV.out]; first | rfl | (show Ending.returned (.bool ((np : Int) == (l : Int))) = _; rw [show ((np : Int) == (l : Int)) = false by simpa using nnp]), HW0.out⟩
    subst hna
    by_cases hnb : l = nb
    case neg =>
      have mnb : ¬ nb = l := fun h => hnb h.symm
      have HV : Hid (fitB l l l nb np = false) := by unfold Hid fitB; simp [mnb]
      have nnb : ¬ (nb : Int) = (l : Int) := by omega
      clear hnb mnb
      go_enter Tryz.func79, Tryz.ntmps79
      go_upto_region 1 with fail
      generalize w.alloc (.cells (tkc ba l ca X bb nb cb Y Z bp np cp) 41) = W1 at *
      have c0 : W1.cell? ⟨w.heap.size, 0, none⟩ = some (.slice ba l ca) := cell_of_row _ _ 0 _ _ (0, 0) HR0.out
      have c2 : W1.cell? ⟨w.heap.size, 2, none⟩ = some (.slice bb nb cb) := cell_of_row _ _ 2 _ _ (0, 0) HR0.out
      have c5 : W1.cell? ⟨w.heap.size, 5, none⟩ = some (.slice bp np cp) := cell_of_row _ _ 5 _ _ (0, 0) HR0.out
      generalize w.heap.size = gb at *
      go_wp2_with (go_at_call 102; refine (HCn.out _).mono ?_; rintro e w1 ⟨rfl, rfl⟩)
      go_ret
      exact ⟨by rw [HV.out]; first | rfl | (show Ending.returned (.bool ((np : Int) == (l : Int))) = _; rw [show ((np : Int) == (l : Int)) = false by simpa using nnp]), HW0.out⟩
    subst hnb
    by_cases hnp : l = np
    case neg =>
      have mnp : ¬ np = l := fun h => hnp h.symm
      have HV : Hid (fitB l l l l np = false) := by unfold Hid fitB; simp [mnp]
      have nnp : ¬ (np : Int) = (l : Int) := by omega
      clear hnp mnp
      go_enter Tryz.func79, Tryz.ntmps79
      go_upto_region 1 with fail
      generalize w.alloc (.cells (tkc ba l ca X bb l cb Y Z bp np cp) 41) = W1 at *
      have c0 : W1.cell? ⟨w.heap.size, 0, none⟩ = some (.slice ba l ca) := cell_of_row _ _ 0 _ _ (0, 0) HR0.out
      have c2 : W1.cell? ⟨w.heap.size, 2, none⟩ = some (.slice bb l cb) := cell_of_row _ _ 2 _ _ (0, 0) HR0.out
      have c5 : W1.cell? ⟨w.heap.size, 5, none⟩ = some (.slice bp np cp) := cell_of_row _ _ 5 _ _ (0, 0) HR0.out
      generalize w.heap.size = gb at *
      go_wp2_with (go_at_call 102; refine (HCn.out _).mono ?_; rintro e w1 ⟨rfl, rfl⟩)
      go_ret
      exact ⟨by rw [HV.out]; first | rfl | (show Ending.returned (.bool ((np : Int) == (l : Int))) = _; rw [show ((np : Int) == (l : Int)) = false by simpa using nnp]), HW0.out⟩
    subst hnp
    have HV : Hid (fitB l l l l l = true) := by unfold Hid fitB; simp [hc]
    go_enter Tryz.func79, Tryz.ntmps79
    go_upto_region 1 with fail
    generalize w.alloc (.cells (tkc ba l ca X bb l cb Y Z bp l cp) 41) = W1 at *
    have c0 : W1.cell? ⟨w.heap.size, 0, none⟩ = some (.slice ba l ca) := cell_of_row _ _ 0 _ _ (0, 0) HR0.out
    have c2 : W1.cell? ⟨w.heap.size, 2, none⟩ = some (.slice bb l cb) := cell_of_row _ _ 2 _ _ (0, 0) HR0.out
    have c5 : W1.cell? ⟨w.heap.size, 5, none⟩ = some (.slice bp l cp) := cell_of_row _ _ 5 _ _ (0, 0) HR0.out
    generalize w.heap.size = gb at *
    go_wp2_with (go_at_call 102; refine (HCn.out _).mono ?_; rintro e w1 ⟨rfl, rfl⟩)
    go_ret
    exact ⟨by rw [HV.out]; first | rfl | (show Ending.returned (.bool ((l : Int) == (l : Int))) = _; rw [show ((l : Int) == (l : Int)) = false by simpa using nnp]), HW0.out⟩
/-- Are all of these elements? -/
def eltB (P Q y : Int) (l : Nat) (C : Nat → Nat → Int) (no : Nat) (O : Nat → Nat → Int) (na : Nat) (A : Nat → Int) (nb : Nat) (B : Nat → Int) (np : Nat) (Pp : Nat → Int) : Bool := inI P Q y && batB P Q l C && batB P Q no O && elB P Q na A && elB P Q nb B && elB P Q np Pp
theorem eltB_iff {P Q y : Int} {l : Nat} {C : Nat → Nat → Int} {no : Nat} {O : Nat → Nat → Int} {na : Nat} {A : Nat → Int} {nb : Nat} {B : Nat → Int} {np : Nat} {Pp : Nat → Int} : eltB P Q y l C no O na A nb B np Pp = true ↔ inI P Q y = true ∧ batB P Q l C = true ∧ batB P Q no O = true ∧ elB P Q na A = true ∧ elB P Q nb B = true ∧ elB P Q np Pp = true := by
  unfold eltB
  simp only [Bool.and_eq_true_iff, and_assoc]
set_option maxRecDepth 100000 in
set_option maxHeartbeats 4000000 in
theorem sallel_any (P Q G H : Int) (a : Option Addr) (m cap : Nat) (y : Int) (bi : Option Addr) (l ci : Nat) (C : Nat → Nat → Int) (bo : Option Addr) (no co : Nat) (O : Nat → Nat → Int) (ba : Option Addr) (na ca : Nat) (A : Nat → Int) (X : Int) (bb : Option Addr) (nb cb : Nat) (B : Nat → Int) (Y Z : Int) (bp : Option Addr) (np cp : Nat) (Pp : Nat → Int) (w : World) (h4 : Four P Q G H) (hy : U64 y) (hl : l ≤ 1000) (hno : no ≤ 1000) (hC : BoxsIn w bi l C) (hO : BoxsIn w bo no O) (hna : na ≤ 1000) (hnb : nb ≤ 1000) (hnp : np ≤ 1000) (hA : FacsIn w ba na A) (hB : FacsIn w bb nb B) (hP : FacsIn w bp np Pp) :
    Calls Tryz.prog 80 #[gv P Q G H a m cap, .int .u64 y, .slice bi l ci, .slice bo no co, tk ba na ca X bb nb cb Y Z bp np cp] w (Ret w (.bool (eltB P Q y l C no O na A nb B np Pp))) := by
  have HZ := lain2 w (gc P Q G H a m cap) (tkc ba na ca X bb nb cb Y Z bp np cp) 25 41
  have HG0 := fun w' ho => (HZ.then (W' := w') ho).row 0 (by simp)
  have HT0 := fun w' ho => (HZ.then (W' := w') ho).row 1 (by simp)
  have HW0 : Hid (Old w ((w.alloc (.cells (gc P Q G H a m cap) 25)).alloc (.cells (tkc ba na ca X bb nb cb Y Z bp np cp) 41))) := HZ.old
  clear HZ
  have HIn : Hid (∀ wx, Old w wx → Calls Tryz.prog 52 #[gv P Q G H a m cap, .int .u64 y] wx (Ret wx (.bool (inI P Q y)))) := fun wx _ => gin0 P Q G H y a m cap wx h4.q0 h4.q1 hy.2
  have HBi : Hid (∀ wx, Old w wx → Calls Tryz.prog 51 #[gv P Q G H a m cap, .slice bi l ci] wx (Ret wx (.bool (batB P Q l C)))) := fun wx ho => sbatch_any P Q G H a m cap bi l ci C wx h4 hl (hC.old ho)
  have HBo : Hid (∀ wx, Old w wx → Calls Tryz.prog 51 #[gv P Q G H a m cap, .slice bo no co] wx (Ret wx (.bool (batB P Q no O)))) := fun wx ho => sbatch_any P Q G H a m cap bo no co O wx h4 hno (hO.old ho)
  have HEA : Hid (∀ wx, Old w wx → Calls Tryz.prog 103 #[gv P Q G H a m cap, .slice ba na ca] wx (Ret wx (.bool (elB P Q na A)))) := fun wx ho => sels_any P Q G H a m cap ba na ca A wx h4 (by omega) (hA.old ho)
  have HEB : Hid (∀ wx, Old w wx → Calls Tryz.prog 103 #[gv P Q G H a m cap, .slice bb nb cb] wx (Ret wx (.bool (elB P Q nb B)))) := fun wx ho => sels_any P Q G H a m cap bb nb cb B wx h4 (by omega) (hB.old ho)
  have HEP : Hid (∀ wx, Old w wx → Calls Tryz.prog 103 #[gv P Q G H a m cap, .slice bp np cp] wx (Ret wx (.bool (elB P Q np Pp)))) := fun wx ho => sels_any P Q G H a m cap bp np cp Pp wx h4 (by omega) (hP.old ho)
  clear h4 hy hl hno hC hO hna hnb hnp hA hB hP
  cases hIn : inI P Q y with
  | false =>
    have HV : Hid (eltB P Q y l C no O na A nb B np Pp = false) := by unfold Hid eltB; simp [hIn]
    rw [hIn] at HIn
    go_enter Tryz.func80, Tryz.ntmps80
    go_upto_region 1 with fail
    generalize (w.alloc (.cells (gc P Q G H a m cap) 25)).alloc (.cells (tkc ba na ca X bb nb cb Y Z bp np cp) 41) = W1 at *
    have HG : Hid (∀ wx, Old W1 wx → wx.heap[w.heap.size]? = some (.cells (gc P Q G H a m cap) 25 (0, 0))) := HG0
    have HT : Hid (∀ wx, Old W1 wx → wx.heap[w.heap.size + 1]? = some (.cells (tkc ba na ca X bb nb cb Y Z bp np cp) 41 (0, 0))) := HT0
    clear HG0 HT0
    have HS : Hid (∀ wx, Old W1 wx → wx.cell? ⟨w.heap.size, 0, none⟩ = some (.int .u64 P) ∧ wx.cell? ⟨w.heap.size, 1, none⟩ = some (.int .u64 Q) ∧ wx.cell? ⟨w.heap.size, 2, none⟩ = some (.int .u64 G) ∧ wx.cell? ⟨w.heap.size, 3, none⟩ = some (.int .u64 H) ∧ wx.cell? ⟨w.heap.size, 4, none⟩ = some (.slice a m cap) ∧ wx.cell? ⟨w.heap.size + 1, 0, none⟩ = some (.slice ba na ca) ∧ wx.cell? ⟨w.heap.size + 1, 2, none⟩ = some (.slice bb nb cb) ∧ wx.cell? ⟨w.heap.size + 1, 5, none⟩ = some (.slice bp np cp)) := fun wx ho => ⟨cell_of_row _ _ 0 _ _ (0, 0) (HG.out _ ho), cell_of_row _ _ 1 _ _ (0, 0) (HG.out _ ho), cell_of_row _ _ 2 _ _ (0, 0) (HG.out _ ho), cell_of_row _ _ 3 _ _ (0, 0) (HG.out _ ho), cell_of_row _ _ 4 _ _ (0, 0) (HG.out _ ho), cell_of_row _ _ 0 _ _ (0, 0) (HT.out _ ho), cell_of_row _ _ 2 _ _ (0, 0) (HT.out _ ho), cell_of_row _ _ 5 _ _ (0, 0) (HT.out _ ho)⟩
    clear HG HT
    generalize w.heap.size = gb at *
    have O0 : Hid (Old W1 W1) := Old.refl _
    obtain ⟨x0, x1, x2, x3, x4, x5, x6, x7⟩ := HS.out _ O0.out
    go_wp2_with (first
      | (go_at_call 52; refine (HIn.out _ (HW0.out.trans O0.out)).mono ?_; rintro e w1 ⟨rfl, o⟩; have O1 : Hid (Old W1 w1) := O0.out.trans o; clear o; clear x0 x1 x2 x3 x4 x5 x6 x7; obtain ⟨x0, x1, x2, x3, x4, x5, x6, x7⟩ := HS.out _ O1.out))
    go_ret
    exact ⟨by rw [HV.out]; rfl, HW0.out.trans O1.out⟩
  | true =>
    rw [hIn] at HIn
    cases hBi : batB P Q l C with
    | false =>
      have HV : Hid (eltB P Q y l C no O na A nb B np Pp = false) := by unfold Hid eltB; simp [hBi]
      rw [hBi] at HBi
      go_enter Tryz.func80, Tryz.ntmps80
      go_upto_region 1 with fail
      generalize (w.alloc (.cells (gc P Q G H a m cap) 25)).alloc (.cells (tkc ba na ca X bb nb cb Y Z bp np cp) 41) = W1 at *
      have HG : Hid (∀ wx, Old W1 wx → wx.heap[w.heap.size]? = some (.cells (gc P Q G H a m cap) 25 (0, 0))) := HG0
      have HT : Hid (∀ wx, Old W1 wx → wx.heap[w.heap.size + 1]? = some (.cells (tkc ba na ca X bb nb cb Y Z bp np cp) 41 (0, 0))) := HT0
      clear HG0 HT0
      have HS : Hid (∀ wx, Old W1 wx → wx.cell? ⟨w.heap.size, 0, none⟩ = some (.int .u64 P) ∧ wx.cell? ⟨w.heap.size, 1, none⟩ = some (.int .u64 Q) ∧ wx.cell? ⟨w.heap.size, 2, none⟩ = some (.int .u64 G) ∧ wx.cell? ⟨w.heap.size, 3, none⟩ = some (.int .u64 H) ∧ wx.cell? ⟨w.heap.size, 4, none⟩ = some (.slice a m cap) ∧ wx.cell? ⟨w.heap.size + 1, 0, none⟩ = some (.slice ba na ca) ∧ wx.cell? ⟨w.heap.size + 1, 2, none⟩ = some (.slice bb nb cb) ∧ wx.cell? ⟨w.heap.size + 1, 5, none⟩ = some (.slice bp np cp)) := fun wx ho => ⟨cell_of_row _ _ 0 _ _ (0, 0) (HG.out _ ho), cell_of_row _ _ 1 _ _ (0, 0) (HG.out _ ho), cell_of_row _ _ 2 _ _ (0, 0) (HG.out _ ho), cell_of_row _ _ 3 _ _ (0, 0) (HG.out _ ho), cell_of_row _ _ 4 _ _ (0, 0) (HG.out _ ho), cell_of_row _ _ 0 _ _ (0, 0) (HT.out _ ho), cell_of_row _ _ 2 _ _ (0, 0) (HT.out _ ho), cell_of_row _ _ 5 _ _ (0, 0) (HT.out _ ho)⟩
      clear HG HT
      generalize w.heap.size = gb at *
      have O0 : Hid (Old W1 W1) := Old.refl _
      obtain ⟨x0, x1, x2, x3, x4, x5, x6, x7⟩ := HS.out _ O0.out
      go_wp2_with (first
        | (go_at_call 51; refine (HBi.out _ (HW0.out.trans O1.out)).mono ?_; rintro e w2 ⟨rfl, o⟩; have O2 : Hid (Old W1 w2) := O1.out.trans o; clear o; clear x0 x1 x2 x3 x4 x5 x6 x7; obtain ⟨x0, x1, x2, x3, x4, x5, x6, x7⟩ := HS.out _ O2.out)
        | (go_at_call 52; refine (HIn.out _ (HW0.out.trans O0.out)).mono ?_; rintro e w1 ⟨rfl, o⟩; have O1 : Hid (Old W1 w1) := O0.out.trans o; clear o; clear x0 x1 x2 x3 x4 x5 x6 x7; obtain ⟨x0, x1, x2, x3, x4, x5, x6, x7⟩ := HS.out _ O1.out))
      go_ret
      exact ⟨by rw [HV.out]; rfl, HW0.out.trans O2.out⟩
    | true =>
      rw [hBi] at HBi
      cases hBo : batB P Q no O with
      | false =>
        have HV : Hid (eltB P Q y l C no O na A nb B np Pp = false) := by unfold Hid eltB; simp [hBo]
        rw [hBo] at HBo
        go_enter Tryz.func80, Tryz.ntmps80
        go_upto_region 1 with fail
        generalize (w.alloc (.cells (gc P Q G H a m cap) 25)).alloc (.cells (tkc ba na ca X bb nb cb Y Z bp np cp) 41) = W1 at *
        have HG : Hid (∀ wx, Old W1 wx → wx.heap[w.heap.size]? = some (.cells (gc P Q G H a m cap) 25 (0, 0))) := HG0
        have HT : Hid (∀ wx, Old W1 wx → wx.heap[w.heap.size + 1]? = some (.cells (tkc ba na ca X bb nb cb Y Z bp np cp) 41 (0, 0))) := HT0
        clear HG0 HT0
        have HS : Hid (∀ wx, Old W1 wx → wx.cell? ⟨w.heap.size, 0, none⟩ = some (.int .u64 P) ∧ wx.cell? ⟨w.heap.size, 1, none⟩ = some (.int .u64 Q) ∧ wx.cell? ⟨w.heap.size, 2, none⟩ = some (.int .u64 G) ∧ wx.cell? ⟨w.heap.size, 3, none⟩ = some (.int .u64 H) ∧ wx.cell? ⟨w.heap.size, 4, none⟩ = some (.slice a m cap) ∧ wx.cell? ⟨w.heap.size + 1, 0, none⟩ = some (.slice ba na ca) ∧ wx.cell? ⟨w.heap.size + 1, 2, none⟩ = some (.slice bb nb cb) ∧ wx.cell? ⟨w.heap.size + 1, 5, none⟩ = some (.slice bp np cp)) := fun wx ho => ⟨cell_of_row _ _ 0 _ _ (0, 0) (HG.out _ ho), cell_of_row _ _ 1 _ _ (0, 0) (HG.out _ ho), cell_of_row _ _ 2 _ _ (0, 0) (HG.out _ ho), cell_of_row _ _ 3 _ _ (0, 0) (HG.out _ ho), cell_of_row _ _ 4 _ _ (0, 0) (HG.out _ ho), cell_of_row _ _ 0 _ _ (0, 0) (HT.out _ ho), cell_of_row _ _ 2 _ _ (0, 0) (HT.out _ ho), cell_of_row _ _ 5 _ _ (0, 0) (HT.out _ ho)⟩
        clear HG HT
        generalize w.heap.size = gb at *
        have O0 : Hid (Old W1 W1) := Old.refl _
        obtain ⟨x0, x1, x2, x3, x4, x5, x6, x7⟩ := HS.out _ O0.out
        go_wp2_with (first
          | (go_at_call 51; refine (HBo.out _ (HW0.out.trans O2.out)).mono ?_; rintro e w3 ⟨rfl, o⟩; have O3 : Hid (Old W1 w3) := O2.out.trans o; clear o; clear x0 x1 x2 x3 x4 x5 x6 x7; obtain ⟨x0, x1, x2, x3, x4, x5, x6, x7⟩ := HS.out _ O3.out)
          | (go_at_call 51; refine (HBi.out _ (HW0.out.trans O1.out)).mono ?_; rintro e w2 ⟨rfl, o⟩; have O2 : Hid (Old W1 w2) := O1.out.trans o; clear o; clear x0 x1 x2 x3 x4 x5 x6 x7; obtain ⟨x0, x1, x2, x3, x4, x5, x6, x7⟩ := HS.out _ O2.out)
          | (go_at_call 52; refine (HIn.out _ (HW0.out.trans O0.out)).mono ?_; rintro e w1 ⟨rfl, o⟩; have O1 : Hid (Old W1 w1) := O0.out.trans o; clear o; clear x0 x1 x2 x3 x4 x5 x6 x7; obtain ⟨x0, x1, x2, x3, x4, x5, x6, x7⟩ := HS.out _ O1.out))
        go_ret
        exact ⟨by rw [HV.out]; rfl, HW0.out.trans O3.out⟩
      | true =>
        rw [hBo] at HBo
        cases hEA : elB P Q na A with
        | false =>
          have HV : Hid (eltB P Q y l C no O na A nb B np Pp = false) := by unfold Hid eltB; simp [hEA]
          rw [hEA] at HEA
          go_enter Tryz.func80, Tryz.ntmps80
          go_upto_region 1 with fail
          generalize (w.alloc (.cells (gc P Q G H a m cap) 25)).alloc (.cells (tkc ba na ca X bb nb cb Y Z bp np cp) 41) = W1 at *
          have HG : Hid (∀ wx, Old W1 wx → wx.heap[w.heap.size]? = some (.cells (gc P Q G H a m cap) 25 (0, 0))) := HG0
          have HT : Hid (∀ wx, Old W1 wx → wx.heap[w.heap.size + 1]? = some (.cells (tkc ba na ca X bb nb cb Y Z bp np cp) 41 (0, 0))) := HT0
          clear HG0 HT0
          have HS : Hid (∀ wx, Old W1 wx → wx.cell? ⟨w.heap.size, 0, none⟩ = some (.int .u64 P) ∧ wx.cell? ⟨w.heap.size, 1, none⟩ = some (.int .u64 Q) ∧ wx.cell? ⟨w.heap.size, 2, none⟩ = some (.int .u64 G) ∧ wx.cell? ⟨w.heap.size, 3, none⟩ = some (.int .u64 H) ∧ wx.cell? ⟨w.heap.size, 4, none⟩ = some (.slice a m cap) ∧ wx.cell? ⟨w.heap.size + 1, 0, none⟩ = some (.slice ba na ca) ∧ wx.cell? ⟨w.heap.size + 1, 2, none⟩ = some (.slice bb nb cb) ∧ wx.cell? ⟨w.heap.size + 1, 5, none⟩ = some (.slice bp np cp)) := fun wx ho => ⟨cell_of_row _ _ 0 _ _ (0, 0) (HG.out _ ho), cell_of_row _ _ 1 _ _ (0, 0) (HG.out _ ho), cell_of_row _ _ 2 _ _ (0, 0) (HG.out _ ho), cell_of_row _ _ 3 _ _ (0, 0) (HG.out _ ho), cell_of_row _ _ 4 _ _ (0, 0) (HG.out _ ho), cell_of_row _ _ 0 _ _ (0, 0) (HT.out _ ho), cell_of_row _ _ 2 _ _ (0, 0) (HT.out _ ho), cell_of_row _ _ 5 _ _ (0, 0) (HT.out _ ho)⟩
          clear HG HT
          generalize w.heap.size = gb at *
          have O0 : Hid (Old W1 W1) := Old.refl _
          obtain ⟨x0, x1, x2, x3, x4, x5, x6, x7⟩ := HS.out _ O0.out
          go_wp2_with (first
            | (go_at_call 103; refine (HEA.out _ (HW0.out.trans O3.out)).mono ?_; rintro e w4 ⟨rfl, o⟩; have O4 : Hid (Old W1 w4) := O3.out.trans o; clear o; clear x0 x1 x2 x3 x4 x5 x6 x7; obtain ⟨x0, x1, x2, x3, x4, x5, x6, x7⟩ := HS.out _ O4.out)
            | (go_at_call 51; refine (HBo.out _ (HW0.out.trans O2.out)).mono ?_; rintro e w3 ⟨rfl, o⟩; have O3 : Hid (Old W1 w3) := O2.out.trans o; clear o; clear x0 x1 x2 x3 x4 x5 x6 x7; obtain ⟨x0, x1, x2, x3, x4, x5, x6, x7⟩ := HS.out _ O3.out)
            | (go_at_call 51; refine (HBi.out _ (HW0.out.trans O1.out)).mono ?_; rintro e w2 ⟨rfl, o⟩; have O2 : Hid (Old W1 w2) := O1.out.trans o; clear o; clear x0 x1 x2 x3 x4 x5 x6 x7; obtain ⟨x0, x1, x2, x3, x4, x5, x6, x7⟩ := HS.out _ O2.out)
            | (go_at_call 52; refine (HIn.out _ (HW0.out.trans O0.out)).mono ?_; rintro e w1 ⟨rfl, o⟩; have O1 : Hid (Old W1 w1) := O0.out.trans o; clear o; clear x0 x1 x2 x3 x4 x5 x6 x7; obtain ⟨x0, x1, x2, x3, x4, x5, x6, x7⟩ := HS.out _ O1.out))
          go_ret
          exact ⟨by rw [HV.out]; rfl, HW0.out.trans O4.out⟩
        | true =>
          rw [hEA] at HEA
          cases hEB : elB P Q nb B with
          | false =>
            have HV : Hid (eltB P Q y l C no O na A nb B np Pp = false) := by unfold Hid eltB; simp [hEB]
            rw [hEB] at HEB
            go_enter Tryz.func80, Tryz.ntmps80
            go_upto_region 1 with fail
            generalize (w.alloc (.cells (gc P Q G H a m cap) 25)).alloc (.cells (tkc ba na ca X bb nb cb Y Z bp np cp) 41) = W1 at *
            have HG : Hid (∀ wx, Old W1 wx → wx.heap[w.heap.size]? = some (.cells (gc P Q G H a m cap) 25 (0, 0))) := HG0
            have HT : Hid (∀ wx, Old W1 wx → wx.heap[w.heap.size + 1]? = some (.cells (tkc ba na ca X bb nb cb Y Z bp np cp) 41 (0, 0))) := HT0
            clear HG0 HT0
            have HS : Hid (∀ wx, Old W1 wx → wx.cell? ⟨w.heap.size, 0, none⟩ = some (.int .u64 P) ∧ wx.cell? ⟨w.heap.size, 1, none⟩ = some (.int .u64 Q) ∧ wx.cell? ⟨w.heap.size, 2, none⟩ = some (.int .u64 G) ∧ wx.cell? ⟨w.heap.size, 3, none⟩ = some (.int .u64 H) ∧ wx.cell? ⟨w.heap.size, 4, none⟩ = some (.slice a m cap) ∧ wx.cell? ⟨w.heap.size + 1, 0, none⟩ = some (.slice ba na ca) ∧ wx.cell? ⟨w.heap.size + 1, 2, none⟩ = some (.slice bb nb cb) ∧ wx.cell? ⟨w.heap.size + 1, 5, none⟩ = some (.slice bp np cp)) := fun wx ho => ⟨cell_of_row _ _ 0 _ _ (0, 0) (HG.out _ ho), cell_of_row _ _ 1 _ _ (0, 0) (HG.out _ ho), cell_of_row _ _ 2 _ _ (0, 0) (HG.out _ ho), cell_of_row _ _ 3 _ _ (0, 0) (HG.out _ ho), cell_of_row _ _ 4 _ _ (0, 0) (HG.out _ ho), cell_of_row _ _ 0 _ _ (0, 0) (HT.out _ ho), cell_of_row _ _ 2 _ _ (0, 0) (HT.out _ ho), cell_of_row _ _ 5 _ _ (0, 0) (HT.out _ ho)⟩
            clear HG HT
            generalize w.heap.size = gb at *
            have O0 : Hid (Old W1 W1) := Old.refl _
            obtain ⟨x0, x1, x2, x3, x4, x5, x6, x7⟩ := HS.out _ O0.out
            go_wp2_with (first
              | (go_at_call 103; refine (HEB.out _ (HW0.out.trans O4.out)).mono ?_; rintro e w5 ⟨rfl, o⟩; have O5 : Hid (Old W1 w5) := O4.out.trans o; clear o; clear x0 x1 x2 x3 x4 x5 x6 x7; obtain ⟨x0, x1, x2, x3, x4, x5, x6, x7⟩ := HS.out _ O5.out)
              | (go_at_call 103; refine (HEA.out _ (HW0.out.trans O3.out)).mono ?_; rintro e w4 ⟨rfl, o⟩; have O4 : Hid (Old W1 w4) := O3.out.trans o; clear o; clear x0 x1 x2 x3 x4 x5 x6 x7; obtain ⟨x0, x1, x2, x3, x4, x5, x6, x7⟩ := HS.out _ O4.out)
              | (go_at_call 51; refine (HBo.out _ (HW0.out.trans O2.out)).mono ?_; rintro e w3 ⟨rfl, o⟩; have O3 : Hid (Old W1 w3) := O2.out.trans o; clear o; clear x0 x1 x2 x3 x4 x5 x6 x7; obtain ⟨x0, x1, x2, x3, x4, x5, x6, x7⟩ := HS.out _ O3.out)
              | (go_at_call 51; refine (HBi.out _ (HW0.out.trans O1.out)).mono ?_; rintro e w2 ⟨rfl, o⟩; have O2 : Hid (Old W1 w2) := O1.out.trans o; clear o; clear x0 x1 x2 x3 x4 x5 x6 x7; obtain ⟨x0, x1, x2, x3, x4, x5, x6, x7⟩ := HS.out _ O2.out)
              | (go_at_call 52; refine (HIn.out _ (HW0.out.trans O0.out)).mono ?_; rintro e w1 ⟨rfl, o⟩; have O1 : Hid (Old W1 w1) := O0.out.trans o; clear o; clear x0 x1 x2 x3 x4 x5 x6 x7; obtain ⟨x0, x1, x2, x3, x4, x5, x6, x7⟩ := HS.out _ O1.out))
            go_ret
            exact ⟨by rw [HV.out]; rfl, HW0.out.trans O5.out⟩
          | true =>
            rw [hEB] at HEB
            cases hEP : elB P Q np Pp with
            | false =>
              have HV : Hid (eltB P Q y l C no O na A nb B np Pp = false) := by unfold Hid eltB; simp [hEP]
              rw [hEP] at HEP
              go_enter Tryz.func80, Tryz.ntmps80
              go_upto_region 1 with fail
              generalize (w.alloc (.cells (gc P Q G H a m cap) 25)).alloc (.cells (tkc ba na ca X bb nb cb Y Z bp np cp) 41) = W1 at *
              have HG : Hid (∀ wx, Old W1 wx → wx.heap[w.heap.size]? = some (.cells (gc P Q G H a m cap) 25 (0, 0))) := HG0
              have HT : Hid (∀ wx, Old W1 wx → wx.heap[w.heap.size + 1]? = some (.cells (tkc ba na ca X bb nb cb Y Z bp np cp) 41 (0, 0))) := HT0
              clear HG0 HT0
              have HS : Hid (∀ wx, Old W1 wx → wx.cell? ⟨w.heap.size, 0, none⟩ = some (.int .u64 P) ∧ wx.cell? ⟨w.heap.size, 1, none⟩ = some (.int .u64 Q) ∧ wx.cell? ⟨w.heap.size, 2, none⟩ = some (.int .u64 G) ∧ wx.cell? ⟨w.heap.size, 3, none⟩ = some (.int .u64 H) ∧ wx.cell? ⟨w.heap.size, 4, none⟩ = some (.slice a m cap) ∧ wx.cell? ⟨w.heap.size + 1, 0, none⟩ = some (.slice ba na ca) ∧ wx.cell? ⟨w.heap.size + 1, 2, none⟩ = some (.slice bb nb cb) ∧ wx.cell? ⟨w.heap.size + 1, 5, none⟩ = some (.slice bp np cp)) := fun wx ho => ⟨cell_of_row _ _ 0 _ _ (0, 0) (HG.out _ ho), cell_of_row _ _ 1 _ _ (0, 0) (HG.out _ ho), cell_of_row _ _ 2 _ _ (0, 0) (HG.out _ ho), cell_of_row _ _ 3 _ _ (0, 0) (HG.out _ ho), cell_of_row _ _ 4 _ _ (0, 0) (HG.out _ ho), cell_of_row _ _ 0 _ _ (0, 0) (HT.out _ ho), cell_of_row _ _ 2 _ _ (0, 0) (HT.out _ ho), cell_of_row _ _ 5 _ _ (0, 0) (HT.out _ ho)⟩
              clear HG HT
              generalize w.heap.size = gb at *
              have O0 : Hid (Old W1 W1) := Old.refl _
              obtain ⟨x0, x1, x2, x3, x4, x5, x6, x7⟩ := HS.out _ O0.out
              go_wp2_with (first
                | (go_at_call 103; refine (HEP.out _ (HW0.out.trans O5.out)).mono ?_; rintro e w6 ⟨rfl, o⟩; have O6 : Hid (Old W1 w6) := O5.out.trans o; clear o; clear x0 x1 x2 x3 x4 x5 x6 x7; obtain ⟨x0, x1, x2, x3, x4, x5, x6, x7⟩ := HS.out _ O6.out)
                | (go_at_call 103; refine (HEB.out _ (HW0.out.trans O4.out)).mono ?_; rintro e w5 ⟨rfl, o⟩; have O5 : Hid (Old W1 w5) := O4.out.trans o; clear o; clear x0 x1 x2 x3 x4 x5 x6 x7; obtain ⟨x0, x1, x2, x3, x4, x5, x6, x7⟩ := HS.out _ O5.out)
                | (go_at_call 103; refine (HEA.out _ (HW0.out.trans O3.out)).mono ?_; rintro e w4 ⟨rfl, o⟩; have O4 : Hid (Old W1 w4) := O3.out.trans o; clear o; clear x0 x1 x2 x3 x4 x5 x6 x7; obtain ⟨x0, x1, x2, x3, x4, x5, x6, x7⟩ := HS.out _ O4.out)
                | (go_at_call 51; refine (HBo.out _ (HW0.out.trans O2.out)).mono ?_; rintro e w3 ⟨rfl, o⟩; have O3 : Hid (Old W1 w3) := O2.out.trans o; clear o; clear x0 x1 x2 x3 x4 x5 x6 x7; obtain ⟨x0, x1, x2, x3, x4, x5, x6, x7⟩ := HS.out _ O3.out)
                | (go_at_call 51; refine (HBi.out _ (HW0.out.trans O1.out)).mono ?_; rintro e w2 ⟨rfl, o⟩; have O2 : Hid (Old W1 w2) := O1.out.trans o; clear o; clear x0 x1 x2 x3 x4 x5 x6 x7; obtain ⟨x0, x1, x2, x3, x4, x5, x6, x7⟩ := HS.out _ O2.out)
                | (go_at_call 52; refine (HIn.out _ (HW0.out.trans O0.out)).mono ?_; rintro e w1 ⟨rfl, o⟩; have O1 : Hid (Old W1 w1) := O0.out.trans o; clear o; clear x0 x1 x2 x3 x4 x5 x6 x7; obtain ⟨x0, x1, x2, x3, x4, x5, x6, x7⟩ := HS.out _ O1.out))
              go_ret
              exact ⟨by rw [HV.out]; rfl, HW0.out.trans O6.out⟩
            | true =>
              rw [hEP] at HEP
              have HV : Hid (eltB P Q y l C no O na A nb B np Pp = true) := by unfold Hid eltB; simp [hIn, hBi, hBo, hEA, hEB, hEP]
              go_enter Tryz.func80, Tryz.ntmps80
              go_upto_region 1 with fail
              generalize (w.alloc (.cells (gc P Q G H a m cap) 25)).alloc (.cells (tkc ba na ca X bb nb cb Y Z bp np cp) 41) = W1 at *
              have HG : Hid (∀ wx, Old W1 wx → wx.heap[w.heap.size]? = some (.cells (gc P Q G H a m cap) 25 (0, 0))) := HG0
              have HT : Hid (∀ wx, Old W1 wx → wx.heap[w.heap.size + 1]? = some (.cells (tkc ba na ca X bb nb cb Y Z bp np cp) 41 (0, 0))) := HT0
              clear HG0 HT0
              have HS : Hid (∀ wx, Old W1 wx → wx.cell? ⟨w.heap.size, 0, none⟩ = some (.int .u64 P) ∧ wx.cell? ⟨w.heap.size, 1, none⟩ = some (.int .u64 Q) ∧ wx.cell? ⟨w.heap.size, 2, none⟩ = some (.int .u64 G) ∧ wx.cell? ⟨w.heap.size, 3, none⟩ = some (.int .u64 H) ∧ wx.cell? ⟨w.heap.size, 4, none⟩ = some (.slice a m cap) ∧ wx.cell? ⟨w.heap.size + 1, 0, none⟩ = some (.slice ba na ca) ∧ wx.cell? ⟨w.heap.size + 1, 2, none⟩ = some (.slice bb nb cb) ∧ wx.cell? ⟨w.heap.size + 1, 5, none⟩ = some (.slice bp np cp)) := fun wx ho => ⟨cell_of_row _ _ 0 _ _ (0, 0) (HG.out _ ho), cell_of_row _ _ 1 _ _ (0, 0) (HG.out _ ho), cell_of_row _ _ 2 _ _ (0, 0) (HG.out _ ho), cell_of_row _ _ 3 _ _ (0, 0) (HG.out _ ho), cell_of_row _ _ 4 _ _ (0, 0) (HG.out _ ho), cell_of_row _ _ 0 _ _ (0, 0) (HT.out _ ho), cell_of_row _ _ 2 _ _ (0, 0) (HT.out _ ho), cell_of_row _ _ 5 _ _ (0, 0) (HT.out _ ho)⟩
              clear HG HT
              generalize w.heap.size = gb at *
              have O0 : Hid (Old W1 W1) := Old.refl _
              obtain ⟨x0, x1, x2, x3, x4, x5, x6, x7⟩ := HS.out _ O0.out
              go_wp2_with (first
                | (go_at_call 103; refine (HEP.out _ (HW0.out.trans O5.out)).mono ?_; rintro e w6 ⟨rfl, o⟩; have O6 : Hid (Old W1 w6) := O5.out.trans o; clear o; clear x0 x1 x2 x3 x4 x5 x6 x7; obtain ⟨x0, x1, x2, x3, x4, x5, x6, x7⟩ := HS.out _ O6.out)
                | (go_at_call 103; refine (HEB.out _ (HW0.out.trans O4.out)).mono ?_; rintro e w5 ⟨rfl, o⟩; have O5 : Hid (Old W1 w5) := O4.out.trans o; clear o; clear x0 x1 x2 x3 x4 x5 x6 x7; obtain ⟨x0, x1, x2, x3, x4, x5, x6, x7⟩ := HS.out _ O5.out)
                | (go_at_call 103; refine (HEA.out _ (HW0.out.trans O3.out)).mono ?_; rintro e w4 ⟨rfl, o⟩; have O4 : Hid (Old W1 w4) := O3.out.trans o; clear o; clear x0 x1 x2 x3 x4 x5 x6 x7; obtain ⟨x0, x1, x2, x3, x4, x5, x6, x7⟩ := HS.out _ O4.out)
                | (go_at_call 51; refine (HBo.out _ (HW0.out.trans O2.out)).mono ?_; rintro e w3 ⟨rfl, o⟩; have O3 : Hid (Old W1 w3) := O2.out.trans o; clear o; clear x0 x1 x2 x3 x4 x5 x6 x7; obtain ⟨x0, x1, x2, x3, x4, x5, x6, x7⟩ := HS.out _ O3.out)
                | (go_at_call 51; refine (HBi.out _ (HW0.out.trans O1.out)).mono ?_; rintro e w2 ⟨rfl, o⟩; have O2 : Hid (Old W1 w2) := O1.out.trans o; clear o; clear x0 x1 x2 x3 x4 x5 x6 x7; obtain ⟨x0, x1, x2, x3, x4, x5, x6, x7⟩ := HS.out _ O2.out)
                | (go_at_call 52; refine (HIn.out _ (HW0.out.trans O0.out)).mono ?_; rintro e w1 ⟨rfl, o⟩; have O1 : Hid (Old W1 w1) := O0.out.trans o; clear o; clear x0 x1 x2 x3 x4 x5 x6 x7; obtain ⟨x0, x1, x2, x3, x4, x5, x6, x7⟩ := HS.out _ O1.out))
              go_ret
              exact ⟨by rw [HV.out]; rfl, HW0.out.trans O6.out⟩

end Go.Proofs.YtlnmjbbpenhdbaaGreat

namespace Go.Proofs.YtlnmjbbpenhdbaaGreat
open Go.RowKit
set_option linter.unusedSimpArgs false
set_option linter.unusedVariables false

theorem own_slice8 {w : World} {base : Nat} {e : TypeId} {size : Nat} {v : Value} {n : Nat} {xs : List Value} (h : w.ownsRow base e size v n xs) : ∃ b c, v = .slice b n c := by
  rcases h.2 with ⟨rfl, rfl⟩ | ⟨g, cap, cur, rfl, _⟩
  · exact ⟨none, 0, rfl⟩
  · exact ⟨_, cap, rfl⟩
/-- A claim, or none. -/
def GivD (w : World) (ok : Bool) (nt : Nat) (T : Nat → Int) (L : Nat → Nat) (B : Nat → Nat → Int) (r : Ending) (w' : World) : Prop :=
  Old w w' ∧ ∃ v u, r = .returned (.tuple #[.agg #[v, u], .bool ok]) ∧ Nums w' w.heap.size v (if ok then nt else 0) T ∧ Rws w' w.heap.size u (if ok then nt else 0) L B
theorem givD_no {w W' wx : World} {b nt : Nat} {T : Nat → Int} {L : Nat → Nat} {B : Nat → Nat → Int} {ok : Bool} (hk : ok = false) (hb : w.heap.size ≤ b) (h : Old w wx) : GivD w ok nt T L B (.returned (.tuple #[.agg #[.slice none 0 0, .slice none 0 0], .bool false])) ((wx.setCell ⟨b, 0, none⟩ (.slice none 0 0)).setCell ⟨b, 1, none⟩ (.slice none 0 0)) := by
  subst hk
  exact ⟨(h.setCell (p := ⟨b, 0, none⟩) hb _).setCell (p := ⟨b, 1, none⟩) hb _, _, _, rfl, nums_nil _ _ _, fun _ => none, fun _ => 0, World.ownsRow_nil _ _ _ _, fun j hj => by simp at hj⟩
theorem givD_yes {w w' : World} {b base nt : Nat} {T : Nat → Int} {L : Nat → Nat} {B : Nat → Nat → Int} {ok : Bool} {v u : Value} (hk : ok = true) (hb : w.heap.size ≤ b) (hbb : b < base) (h : Old w w') (h1 : Nums w' base v nt T) (h2 : Rws w' base u nt L B) : GivD w ok nt T L B (.returned (.tuple #[.agg #[v, u], .bool true])) ((w'.setCell ⟨b, 0, none⟩ v).setCell ⟨b, 1, none⟩ u) := by
  subst hk
  exact ⟨(h.setCell (p := ⟨b, 0, none⟩) hb _).setCell (p := ⟨b, 1, none⟩) hb _, v, u, rfl, (ownsRow_setCell_below (ownsRow_setCell_below h1 (a := ⟨b, 0, none⟩) hbb _) (a := ⟨b, 1, none⟩) hbb _).mono (by omega), ((h2.below (p := ⟨b, 0, none⟩) hbb _).below (p := ⟨b, 1, none⟩) hbb _).mono (by omega)⟩
section
variable {P Q G H X Y Z y : Int} {n : Nat} {A B Pp : Nat → Int} {C O : Nat → Nat → Int}
theorem tgt_a {i : Nat} (h : i < n) : (tgtT P Q G X Y Z n A B Pp (fun j w => C j (2 * w)) (fun j w => C j (2 * w + 1))) i = A i := by unfold tgtT tgt8; rw [if_pos h]
theorem tgt_b {i : Nat} (h : i < n) : (tgtT P Q G X Y Z n A B Pp (fun j w => C j (2 * w)) (fun j w => C j (2 * w + 1))) (n + i) = B i := by unfold tgtT tgt8; rw [if_neg (by omega), if_pos (by omega)]; congr 1; omega
theorem tgt_d {i : Nat} (h : i < n) : (tgtT P Q G X Y Z n A B Pp (fun j w => C j (2 * w)) (fun j w => C j (2 * w + 1))) (2 * n + i) = bigI P Q G (A i) (B i) Y Z := by unfold tgtT tgt8; rw [if_neg (by omega), if_neg (by omega), if_pos (by omega), show 2 * n + i - 2 * n = i by omega]
theorem tgt_p {i : Nat} (h : i + 1 < n) : (tgtT P Q G X Y Z n A B Pp (fun j w => C j (2 * w)) (fun j w => C j (2 * w + 1))) (3 * n + i) = Pp (i + 1) := by unfold tgtT tgt8; rw [if_neg (by omega), if_neg (by omega), if_neg (by omega), if_pos (by omega)]; congr 1; omega
theorem tgt_l (h : 0 < n) : (tgtT P Q G X Y Z n A B Pp (fun j w => C j (2 * w)) (fun j w => C j (2 * w + 1))) (3 * n + (n - 1)) = lastI P Q G X Y Z n (Pp (n - 1)) := by unfold tgtT tgt8; rw [if_neg (by omega), if_neg (by omega), if_neg (by omega), if_neg (by omega), if_pos (by omega)]
theorem tgt_u {e : Nat} (h : 0 < n) : (tgtT P Q G X Y Z n A B Pp (fun j w => C j (2 * w)) (fun j w => C j (2 * w + 1))) (4 * n + 2 * e) = prodI P (fun j => expI P Q (C j (2 * e)) (powI X ((j : Int) + 1) Q)) n := by
  unfold tgtT tgt8
  rw [if_neg (by omega), if_neg (by omega), if_neg (by omega), if_neg (by omega), if_neg (by omega), show 4 * n + 2 * e - 4 * n = 2 * e by omega]
  unfold uvI
  rw [if_pos (by omega), show 2 * e / 2 = e by omega]
theorem tgt_v {e : Nat} (h : 0 < n) : (tgtT P Q G X Y Z n A B Pp (fun j w => C j (2 * w)) (fun j w => C j (2 * w + 1))) (4 * n + 2 * e + 1) = prodI P (fun j => expI P Q (C j (2 * e + 1)) (powI X ((j : Int) + 1) Q)) n := by
  unfold tgtT tgt8
  rw [if_neg (by omega), if_neg (by omega), if_neg (by omega), if_neg (by omega), if_neg (by omega), show 4 * n + 2 * e + 1 - 4 * n = 2 * e + 1 by omega]
  unfold uvI
  rw [if_neg (by omega), show (2 * e + 1) / 2 = e by omega]
theorem bas_a {i : Nat} (h : i < n) : (bas8 n Pp G H y (fun j w => O j (2 * w)) (fun j w => O j (2 * w + 1))) i = row28 i G (n + i) H := by unfold bas8; rw [if_pos h]
theorem bas_b {i : Nat} (h : i < n) : (bas8 n Pp G H y (fun j w => O j (2 * w)) (fun j w => O j (2 * w + 1))) (n + i) = row28 (2 * n + i) G (3 * n + i) H := by unfold bas8; rw [if_neg (by omega), if_pos (by omega), show n + i - n = i by omega]
theorem bas_d {i : Nat} (h : i < n) : (bas8 n Pp G H y (fun j w => O j (2 * w)) (fun j w => O j (2 * w + 1))) (2 * n + i) = row28 (4 * n + i) G (5 * n + i) H := by unfold bas8; rw [if_neg (by omega), if_neg (by omega), if_pos (by omega), show 2 * n + i - 2 * n = i by omega]
theorem bas_p {i : Nat} (h : i + 1 < n) : (bas8 n Pp G H y (fun j w => O j (2 * w)) (fun j w => O j (2 * w + 1))) (3 * n + i) = row28 (4 * n + (i + 1)) (Pp i) (6 * n + i) H := by unfold bas8; rw [if_neg (by omega), if_neg (by omega), if_neg (by omega), if_pos (by omega), show 3 * n + i - 3 * n = i by omega]
theorem bas_l (h : 0 < n) : (bas8 n Pp G H y (fun j w => O j (2 * w)) (fun j w => O j (2 * w + 1))) (3 * n + (n - 1)) = row18 (7 * n - 1) H := by unfold bas8; rw [if_neg (by omega), if_neg (by omega), if_neg (by omega), if_neg (by omega), if_pos (by omega)]
theorem bas_u {e : Nat} (h : 0 < n) : (bas8 n Pp G H y (fun j w => O j (2 * w)) (fun j w => O j (2 * w + 1))) (4 * n + 2 * e) = rowS8 (2 * n) n (fun i => O i (2 * e)) (7 * n + e) G := by
  unfold bas8
  rw [if_neg (by omega), if_neg (by omega), if_neg (by omega), if_neg (by omega), if_neg (by omega), show 4 * n + 2 * e - 4 * n = 2 * e by omega, if_pos (by omega), show 2 * e / 2 = e by omega]
theorem bas_v {e : Nat} (h : 0 < n) : (bas8 n Pp G H y (fun j w => O j (2 * w)) (fun j w => O j (2 * w + 1))) (4 * n + 2 * e + 1) = rowS8 (2 * n) n (fun i => O i (2 * e + 1)) (7 * n + e) y := by
  unfold bas8
  rw [if_neg (by omega), if_neg (by omega), if_neg (by omega), if_neg (by omega), if_neg (by omega), show 4 * n + 2 * e + 1 - 4 * n = 2 * e + 1 by omega, if_neg (by omega), show (2 * e + 1) / 2 = e by omega]
end
/-- Nothing is laid out yet. -/
theorem LayB.new (W : World) (n : Nat) (Ks : List (Nat × Obj)) (T : Nat → Int) (R : Nat → Nat → Int) (hK : ∀ e, e ∈ Ks → W.heap[e.1]? = some e.2) : LayB W W.heap.size n Ks T R 0 [] (W.alloc (.cells #[.int .i64 (n : Int), .slice none 0 0, .slice none 0 0] 109)) :=
  ⟨.slice none 0 0, .slice none 0 0, fun _ => 0, fun e he => by simp at he, ⟨(Old.refl _).alloc _, Nat.le_refl _, by simp, nums_nil _ _ _, World.ownsRow_nil _ _ _ _, fun j hj => by omega, fun i j hi => by omega, fun j hj => by omega, fun j hj => by omega, Or.inl rfl, fun e he => ⟨(((Old.refl W).alloc _).block _ (obj_lt (hK e he))).trans (hK e he), Nat.ne_of_lt (obj_lt (hK e he)), by simp [Value.ownBlock], by simp [Value.ownBlock], fun j hj => by omega⟩⟩, heap_alloc_last _ _⟩
/-- What was laid out is a claim. -/
theorem LayB.claim {W w : World} {s n k : Nat} {Ks : List (Nat × Obj)} {T : Nat → Int} {R : Nat → Nat → Int} (h : LayB W s n Ks T R k [] w) (hn : n ≤ 8) : ∃ v u, w.heap[s]? = some (.cells #[.int .i64 (n : Int), v, u] 109 (0, 0)) ∧ Nums w (s + 1) v k T ∧ Rws w (s + 1) u k (fun _ => 7 * n + 3) R :=
  let ⟨v, u, bk, _, h⟩ := h; ⟨v, u, h.row, h.ly.nums, fun j => some ⟨bk j, 0, none⟩, fun _ => 7 * n + 3, h.ly.own, fun j hj => (h.ly.full j hj).2.nums (h.ly.full j hj).1 (by omega)⟩

set_option maxRecDepth 100000 in
set_option maxHeartbeats 16000000 in
theorem lclm_any (P Q G H : Int) (a : Option Addr) (m cap : Nat) (y : Int) (bi : Option Addr) (ci : Nat) (C : Nat → Nat → Int) (bo : Option Addr) (co : Nat) (O : Nat → Nat → Int) (ba : Option Addr) (ca : Nat) (A : Nat → Int) (X : Int) (bb : Option Addr) (cb : Nat) (B : Nat → Int) (Y Z : Int) (bp : Option Addr) (cp : Nat) (Pp : Nat → Int) (n : Nat) (w : World) (h1n : 0 < n) (hn : n ≤ 8) (h4 : Four P Q G H) (hr : Righ P Q G) (hy : U64 y) (hX : U64 X) (hY : U64 Y) (hZ : U64 Z) (hC : BoxsIn w bi n C) (hO : BoxsIn w bo n O) (hA : FacsIn w ba n A) (hB : FacsIn w bb n B) (hP : FacsIn w bp n Pp) :
    Calls Tryz.prog 28 #[gv P Q G H a m cap, .int .u64 y, .slice bi n ci, .slice bo n co, tk ba n ca X bb n cb Y Z bp n cp] w (GivD w (eltB P Q y n C n O n A n B n Pp && decide (Pp 0 = bigI P Q G (A 0) (B 0) Y Z)) (4 * n + 6) (tgtT P Q G X Y Z n A B Pp (fun j w => C j (2 * w)) (fun j w => C j (2 * w + 1))) (fun _ => 7 * n + 3) (bas8 n Pp G H y (fun j w => O j (2 * w)) (fun j w => O j (2 * w + 1)))) := by
  obtain ⟨T, hT⟩ : ∃ T, T = tgtT P Q G X Y Z n A B Pp (fun j w => C j (2 * w)) (fun j w => C j (2 * w + 1)) := ⟨_, rfl⟩
  obtain ⟨R, hR⟩ : ∃ R, R = bas8 n Pp G H y (fun j w => O j (2 * w)) (fun j w => O j (2 * w + 1)) := ⟨_, rfl⟩
  rw [← hT, ← hR]
  have HCom : Hid (∀ (W : World) s Ks wx, Old w W → LayB W s n Ks T R 0 [] wx → Calls Tryz.prog 81 #[.pointer (some ⟨s, 0, none⟩), gv P Q G H a m cap, tk ba n ca X bb n cb Y Z bp n cp] wx fun e w' => e = .returned (.tuple #[]) ∧ LayB W s n Ks T R (3 * n) [] w') := fun W s Ks wx ho h => lcom_any W s n Ks T R P Q G H a m cap ba ca A X bb cb B Y Z bp n cp wx h1n hn h4 hr hY hZ (hA.old ho) (hB.old ho) (fun i hi => by rw [hT]; exact tgt_a hi) (fun i hi => by rw [hT]; exact tgt_b hi) (fun i hi => by rw [hT]; exact tgt_d hi) (fun i hi => by rw [hR]; exact bas_a hi) (fun i hi => by rw [hR]; exact bas_b hi) (fun i hi => by rw [hR]; exact bas_d hi) h
  have HPro : Hid (∀ (W : World) s Ks wx, Old w W → LayB W s n Ks T R (3 * n) [] wx → Calls Tryz.prog 82 #[.pointer (some ⟨s, 0, none⟩), gv P Q G H a m cap, tk ba n ca X bb n cb Y Z bp n cp] wx fun e w' => e = .returned (.tuple #[]) ∧ LayB W s n Ks T R (4 * n) [] w') := fun W s Ks wx ho h => lprod_any W s n Ks T R P Q G H a m cap ba n ca X bb n cb Y Z bp cp Pp wx h1n hn h4 hr hX hY hZ (hP.old ho) (fun i hi => by rw [hT]; exact tgt_p hi) (by rw [hT]; exact tgt_l h1n) (fun i hi => by rw [hR]; exact bas_p hi) (by rw [hR]; exact bas_l h1n) h
  have HSum : Hid (∀ (W : World) s Ks wx e, e < 3 → Old w W → LayB W s n Ks T R (4 * n + 2 * e) [] wx → Calls Tryz.prog 83 #[.pointer (some ⟨s, 0, none⟩), gv P Q G H a m cap, .int .u64 y, .slice bi n ci, .slice bo n co, tk ba n ca X bb n cb Y Z bp n cp, .int .i64 (e : Int)] wx fun r w' => r = .returned (.tuple #[]) ∧ LayB W s n Ks T R (4 * n + 2 * e + 2) [] w') := fun W s Ks wx e he ho h => lsum_any W s n Ks T R P Q G H a m cap y bi ci C bo co O ba n ca X bb n cb Y Z bp n cp e (4 * n + 2 * e) wx h1n hn he (by omega) h4 hr hX (hC.old ho) (hO.old ho) (by rw [hT]; exact tgt_u h1n) (by rw [hT]; exact tgt_v h1n) (by rw [hR]; exact bas_u h1n) (by rw [hR]; exact bas_v h1n) h
  have HJ : Hid (∀ wx, Old w wx → Calls Tryz.prog 63 #[gv P Q G H a m cap, tk ba n ca X bb n cb Y Z bp n cp, .int .i64 0] wx (Ret wx (.int .u64 (bigI P Q G (A 0) (B 0) Y Z)))) := fun wx ho => sjoined_any P Q G H a m cap ba n ca A X bb n cb B Y Z bp n cp 0 wx h4 hr hY hZ (hA.old ho) (hB.old ho) h1n h1n
  have HE : Hid (∀ wx, Old w wx → Calls Tryz.prog 80 #[gv P Q G H a m cap, .int .u64 y, .slice bi n ci, .slice bo n co, tk ba n ca X bb n cb Y Z bp n cp] wx (Ret wx (.bool (eltB P Q y n C n O n A n B n Pp)))) := fun wx ho => sallel_any P Q G H a m cap y bi n ci C bo n co O ba n ca A X bb n cb B Y Z bp n cp Pp wx h4 hy (by omega) (by omega) (hC.old ho) (hO.old ho) (by omega) (by omega) (by omega) (hA.old ho) (hB.old ho) (hP.old ho)
  have HSz : Hid (∀ wx, Calls Tryz.prog 79 #[.slice bi n ci, .slice bo n co, tk ba n ca X bb n cb Y Z bp n cp] wx (Ret wx (.bool true))) := fun wx => by
    have := ssizes_any bi n ci bo n co ba n ca X bb n cb Y Z bp n cp wx (by omega)
    rwa [show fitB n n n n n = true from fitB_iff.2 ⟨⟨h1n, hn⟩, rfl, rfl, rfl, rfl⟩] at this
  rcases hP with h0 | ⟨bp, op, rfl, _, hrp⟩
  · omega
  have HPc : Hid (∀ wx, Old w wx → wx.cell? ⟨bp, op, none⟩ = some (.int .u64 (Pp 0))) := fun wx ho => ho.cellOf (hrp 0 h1n).1
  clear hT hR hrp h4 hr hy hX hY hZ hC hO hA hB
  have HZ := lain3 w (gc P Q G H a m cap) (tkc ba n ca X bb n cb Y Z (some ⟨bp, op, none⟩) n cp) (cc none 0 0 none 0 0) 25 41 50
  have HG0 := fun w' ho => (HZ.then (W' := w') ho).row 0 (by simp)
  have HT0 := fun w' ho => (HZ.then (W' := w') ho).row 1 (by simp)
  have HC0 := fun w' ho => (HZ.then (W' := w') ho).row 2 (by simp)
  have HW0 : Hid (Old w (((w.alloc (.cells (gc P Q G H a m cap) 25)).alloc (.cells (tkc ba n ca X bb n cb Y Z (some ⟨bp, op, none⟩) n cp) 41)).alloc (.cells (cc none 0 0 none 0 0) 50))) := HZ.old
  clear HZ
  obtain ⟨D0, hD⟩ : ∃ D0, D0 = bigI P Q G (A 0) (B 0) Y Z := ⟨_, rfl⟩
  rw [← hD] at HJ ⊢
  clear hD
  cases hE : eltB P Q y n C n O n A n B n Pp with
  | false =>
    rw [hE] at HE
    have HV : Hid ((false && decide (Pp 0 = D0)) = false) := rfl
    go_enter Tryz.func28, Tryz.ntmps28
    go_upto_region 1 with fail
    generalize ((w.alloc (.cells (gc P Q G H a m cap) 25)).alloc (.cells (tkc ba n ca X bb n cb Y Z (some ⟨bp, op, none⟩) n cp) 41)).alloc (.cells (cc none 0 0 none 0 0) 50) = W1 at *
    have HG : Hid (∀ wx, Old W1 wx → wx.heap[w.heap.size]? = some (.cells (gc P Q G H a m cap) 25 (0, 0))) := HG0
    have HTk : Hid (∀ wx, Old W1 wx → wx.heap[w.heap.size + 1]? = some (.cells (tkc ba n ca X bb n cb Y Z (some ⟨bp, op, none⟩) n cp) 41 (0, 0))) := HT0
    have HCl : Hid (∀ wx, Old W1 wx → wx.heap[w.heap.size + 1 + 1]? = some (.cells (cc none 0 0 none 0 0) 50 (0, 0))) := HC0
    clear HG0 HT0 HC0
    obtain ⟨gb, hgb⟩ : ∃ gb, gb = w.heap.size := ⟨_, rfl⟩
    rw [← hgb] at HG HTk HCl
    rw [← hgb]
    have Hgb : Hid (w.heap.size ≤ gb + 1 + 1) := by unfold Hid; omega
    clear hgb
    refine wp_region_tab 24 [.k (.slice bi n ci), .k (.slice bo n co), .k (tk ba n ca X bb n cb Y Z (some ⟨bp, op, none⟩) n cp), .k (.bool true), .k (.bool false), .k (.bool false), .k (gv P Q G H a m cap), .k (.int .u64 y), .k (.slice bi n ci), .k (.slice bo n co), .k (tk ba n ca X bb n cb Y Z (some ⟨bp, op, none⟩) n cp), .k (.bool false), .k (.bool true), .k (.bool true), .k (.bool true), .k undef, .k undef, .k undef, .k undef, .k undef, .k undef, .k undef, .k undef, .k (.bool true)] (Old W1) (by kernel_rfl) (by kernel_rfl) rfl ((Old.refl _).drew) ?st ?_
    case st =>
      refine .c stp <|
        .c stp <|
        .c (sts Tryz.underlying41 HTk.out) <|
        .c (stK old_R Tryz.func79 (fun wx _ => HSz.out wx)) <|
        .c stp <|
        .c stp <|
        .c (sts Tryz.underlying25 HG.out) <|
        .c stp <|
        .c stp <|
        .c stp <|
        .c (sts Tryz.underlying41 HTk.out) <|
        .c (stK old_R Tryz.func80 (fun wx hR => HE.out wx (HW0.out.trans hR))) <|
        .c stp <|
        .c stp <|
        .c stp <|
        .c stn <|
        .c stn <|
        .c stn <|
        .c stn <|
        .c stn <|
        .c stn <|
        .c stn <|
        .c stn <|
        .c stp .n
    intro t wx hR hk
    simp only [fill, Ent.val, List.set_cons_zero, List.set_cons_succ, List.drop_succ_cons, List.drop_zero, List.drop_nil]
    have hrow := HCl.out _ hR
    have q0 : wx.cell? ⟨gb + 1 + 1, 0, none⟩ = some (.slice none 0 0) := cell_of_row _ _ 0 _ _ (0, 0) hrow
    have q1 : wx.cell? ⟨gb + 1 + 1, 1, none⟩ = some (.slice none 0 0) := cell_of_row _ _ 1 _ _ (0, 0) hrow
    have f0 : wx.frozen? ⟨gb + 1 + 1, 0, none⟩ = false := row_frozen hrow 0
    have f1 : wx.frozen? ⟨gb + 1 + 1, 1, none⟩ = false := row_frozen hrow 1
    have HRh : Hid (wx.heap[gb + 1 + 1]? = some (.cells #[.slice none 0 0, .slice none 0 0] 50 (0, 0))) := hrow
    have HOw : Hid (Old w wx) := HW0.out.trans hR
    clear hrow hR hk HCom HPro HSum HJ HE HSz HPc HG HTk HCl
    go_wp2_with fail
    exact bodyPost_ret (result_pair (b := gb + 1 + 1) rfl rfl rfl (load_two HRh.out Tryz.underlying50 info_claim)) rfl (givD_no (W' := wx) HV.out Hgb.out HOw.out)
  | true =>
    rw [hE] at HE
    by_cases hd : Pp 0 = D0
    · have HV : Hid ((true && decide (Pp 0 = D0)) = true) := by unfold Hid; simp [hd]
      have hne : Value.bool (!(Pp 0 == D0)) = .bool false := by simp [hd]
      go_enter Tryz.func28, Tryz.ntmps28
      go_upto_region 1 with fail
      generalize ((w.alloc (.cells (gc P Q G H a m cap) 25)).alloc (.cells (tkc ba n ca X bb n cb Y Z (some ⟨bp, op, none⟩) n cp) 41)).alloc (.cells (cc none 0 0 none 0 0) 50) = W1 at *
      have HG : Hid (∀ wx, Old W1 wx → wx.heap[w.heap.size]? = some (.cells (gc P Q G H a m cap) 25 (0, 0))) := HG0
      have HTk : Hid (∀ wx, Old W1 wx → wx.heap[w.heap.size + 1]? = some (.cells (tkc ba n ca X bb n cb Y Z (some ⟨bp, op, none⟩) n cp) 41 (0, 0))) := HT0
      have HCl : Hid (∀ wx, Old W1 wx → wx.heap[w.heap.size + 1 + 1]? = some (.cells (cc none 0 0 none 0 0) 50 (0, 0))) := HC0
      clear HG0 HT0 HC0
      obtain ⟨gb, hgb⟩ : ∃ gb, gb = w.heap.size := ⟨_, rfl⟩
      rw [← hgb] at HG HTk HCl
      rw [← hgb]
      have Hgb : Hid (w.heap.size ≤ gb + 1 + 1) := by unfold Hid; omega
      clear hgb
      refine wp_region_tab 24 [.k (.slice bi n ci), .k (.slice bo n co), .k (tk ba n ca X bb n cb Y Z (some ⟨bp, op, none⟩) n cp), .k (.bool true), .k (.bool false), .k (.bool false), .k (gv P Q G H a m cap), .k (.int .u64 y), .k (.slice bi n ci), .k (.slice bo n co), .k (tk ba n ca X bb n cb Y Z (some ⟨bp, op, none⟩) n cp), .k (.bool true), .k (.bool false), .k (.bool false), .k (.bool false), .k (.pointer (some ⟨gb + 1, 5, none⟩)), .k (.slice (some ⟨bp, op, none⟩) n cp), .k (.pointer (some ⟨bp, op, none⟩)), .k (.int .u64 (Pp 0)), .k (gv P Q G H a m cap), .k (tk ba n ca X bb n cb Y Z (some ⟨bp, op, none⟩) n cp), .k (.int .u64 D0), .k (.bool false), .k (.bool false)] (Old W1) (by kernel_rfl) (by kernel_rfl) rfl ((Old.refl _).drew) ?st ?_
      case st =>
        refine .c stp <|
          .c stp <|
          .c (sts Tryz.underlying41 HTk.out) <|
          .c (stK old_R Tryz.func79 (fun wx _ => HSz.out wx)) <|
          .c stp <|
          .c stp <|
          .c (sts Tryz.underlying25 HG.out) <|
          .c stp <|
          .c stp <|
          .c stp <|
          .c (sts Tryz.underlying41 HTk.out) <|
          .c (stK old_R Tryz.func80 (fun wx hR => HE.out wx (HW0.out.trans hR))) <|
          .c stp <|
          .c stp <|
          .c stp <|
          .c stp <|
          .c (stf 5 Tryz.underlying29 HTk.out) <|
          .c (sti (n := n) (c := cp) (i := 0) h1n Tryz.underlying29) <|
          .c (stl Tryz.underlying22 (fun wx hx => HPc.out wx (HW0.out.trans hx))) <|
          .c (sts Tryz.underlying25 HG.out) <|
          .c (sts Tryz.underlying41 HTk.out) <|
          .c (stK old_R Tryz.func63 (fun wx hR => HJ.out wx (HW0.out.trans hR))) <|
          .c (stv (v' := .bool (!(Pp 0 == D0))) hne) <|
          .c stp .n
      intro t wx hR hk
      simp only [fill, Ent.val, List.set_cons_zero, List.set_cons_succ, List.drop_succ_cons, List.drop_zero, List.drop_nil]
      have HOw : Hid (Old w wx) := HW0.out.trans hR
      have hs0 : gb + 1 + 1 < wx.heap.size := obj_lt (HCl.out _ hR)
      obtain ⟨K, hK⟩ : ∃ K, K = [(gb, Obj.cells (gc P Q G H a m cap) 25 (0, 0)), (gb + 1, Obj.cells (tkc ba n ca X bb n cb Y Z (some ⟨bp, op, none⟩) n cp) 41 (0, 0)), (gb + 1 + 1, Obj.cells (cc none 0 0 none 0 0) 50 (0, 0))] := ⟨_, rfl⟩
      have HK1 : Hid ((gb, Obj.cells (gc P Q G H a m cap) 25 (0, 0)) ∈ K) := by unfold Hid; rw [hK]; simp
      have HK2 : Hid ((gb + 1, Obj.cells (tkc ba n ca X bb n cb Y Z (some ⟨bp, op, none⟩) n cp) 41 (0, 0)) ∈ K) := by unfold Hid; rw [hK]; simp
      have HK3 : Hid ((gb + 1 + 1, Obj.cells (cc none 0 0 none 0 0) 50 (0, 0)) ∈ K) := by unfold Hid; rw [hK]; simp
      have HL0 : Hid (LayB wx wx.heap.size n K T R 0 [] (wx.alloc (.cells #[.int .i64 (n : Int), .slice none 0 0, .slice none 0 0] 109))) := LayB.new wx n K T R (by
        rw [hK]; intro e he; simp only [List.mem_cons, List.not_mem_nil, or_false] at he
        rcases he with rfl | rfl | rfl
        · exact HG.out _ hR
        · exact HTk.out _ hR
        · exact HCl.out _ hR)
      clear hK hR hk HJ HE HSz HPc HG HTk HCl HW0
      go_upto_region 4 with fail
      generalize wx.alloc (.cells #[.int .i64 (n : Int), .slice none 0 0, .slice none 0 0] 109) = w3 at *
      obtain ⟨s, hs⟩ : ∃ s, s = wx.heap.size := ⟨_, rfl⟩
      rw [← hs] at HL0 hs0
      rw [← hs]
      clear hs
      have HX : Hid (∀ wz k, LayB wx s n K T R k [] wz → wz.cell? ⟨gb, 0, none⟩ = some (.int .u64 P) ∧ wz.cell? ⟨gb, 1, none⟩ = some (.int .u64 Q) ∧ wz.cell? ⟨gb, 2, none⟩ = some (.int .u64 G) ∧ wz.cell? ⟨gb, 3, none⟩ = some (.int .u64 H) ∧ wz.cell? ⟨gb, 4, none⟩ = some (.slice a m cap) ∧ wz.cell? ⟨gb + 1, 0, none⟩ = some (.slice ba n ca) ∧ wz.cell? ⟨gb + 1, 1, none⟩ = some (.int .u64 X) ∧ wz.cell? ⟨gb + 1, 2, none⟩ = some (.slice bb n cb) ∧ wz.cell? ⟨gb + 1, 3, none⟩ = some (.int .u64 Y) ∧ wz.cell? ⟨gb + 1, 4, none⟩ = some (.int .u64 Z) ∧ wz.cell? ⟨gb + 1, 5, none⟩ = some (.slice (some ⟨bp, op, none⟩) n cp)) := fun wz k hz => ⟨cell_of_row _ _ 0 _ _ (0, 0) (hz.prot HK1.out), cell_of_row _ _ 1 _ _ (0, 0) (hz.prot HK1.out), cell_of_row _ _ 2 _ _ (0, 0) (hz.prot HK1.out), cell_of_row _ _ 3 _ _ (0, 0) (hz.prot HK1.out), cell_of_row _ _ 4 _ _ (0, 0) (hz.prot HK1.out), cell_of_row _ _ 0 _ _ (0, 0) (hz.prot HK2.out), cell_of_row _ _ 1 _ _ (0, 0) (hz.prot HK2.out), cell_of_row _ _ 2 _ _ (0, 0) (hz.prot HK2.out), cell_of_row _ _ 3 _ _ (0, 0) (hz.prot HK2.out), cell_of_row _ _ 4 _ _ (0, 0) (hz.prot HK2.out), cell_of_row _ _ 5 _ _ (0, 0) (hz.prot HK2.out)⟩
      have HCc : Hid (∀ wz k, LayB wx s n K T R k [] wz → wz.heap[gb + 1 + 1]? = some (.cells (cc none 0 0 none 0 0) 50 (0, 0))) := fun wz k hz => hz.prot HK3.out
      clear HK1 HK2 HK3
      obtain ⟨x0, x1, x2, x3, x4, x5, x6, x7, x8, x9, x10⟩ := HX.out _ _ HL0.out
      go_upto_region 5 with (go_at_call 81; refine (HCom.out wx s K _ HOw.out HL0.out).mono ?_; rintro e w4 ⟨rfl, hl⟩)
      have HL4 : Hid (LayB wx s n K T R (3 * n) [] w4) := hl
      clear hl HL0 HCom x0 x1 x2 x3 x4 x5 x6 x7 x8 x9 x10
      obtain ⟨x0, x1, x2, x3, x4, x5, x6, x7, x8, x9, x10⟩ := HX.out _ _ HL4.out
      go_upto_region 6 with (go_at_call 82; refine (HPro.out wx s K _ HOw.out HL4.out).mono ?_; rintro e w5 ⟨rfl, hl⟩)
      have HL5 : Hid (LayB wx s n K T R (4 * n + 2 * 0) [] w5) := hl
      clear hl HL4 HPro x0 x1 x2 x3 x4 x5 x6 x7 x8 x9 x10
      go_upto_region 7 with fail
      go_loopw [48] (fun iv wz => ∃ e : Nat, iv = .int .i64 (e : Int) ∧ e ≤ 3 ∧ Hid (LayB wx s n K T R (4 * n + 2 * e) [] wz)) (fun iv _ => 3 - (intOf iv).toNat)
      case atStart => exact ⟨0, rfl, Nat.zero_le _, HL5⟩
      case round =>
        obtain ⟨e, rfl, he, HL⟩ := hrel
        by_cases hlt : e < 3
        · have i1 : (e : Int) < 3 := by omega
          obtain ⟨x0, x1, x2, x3, x4, x5, x6, x7, x8, x9, x10⟩ := HX.out _ _ HL.out
          go_upto_region 10 with (go_at_call 83; refine (HSum.out wx s K _ e hlt HOw.out HL.out).mono ?_; rintro r w6 ⟨rfl, hl⟩)
          have HN : Hid (LayB wx s n K T R (4 * n + 2 * (e + 1)) [] w6) := by rw [show 4 * n + 2 * e + 2 = 4 * n + 2 * (e + 1) by omega] at hl; exact hl
          clear hl HL x0 x1 x2 x3 x4 x5 x6 x7 x8 x9 x10
          go_wp2_with fail
          go_roundw
          case rel => exact ⟨e + 1, idx_next e, by omega, HN⟩
          case measure => simp [intOf]; omega
        · have he3 : e = 3 := by omega
          subst he3
          obtain ⟨v, u, hrow, hN, hRw⟩ := HL.out.claim hn
          have hcl := HCc.out _ _ HL.out
          obtain ⟨bt, ct, rfl⟩ := own_slice8 hN
          obtain ⟨b2, c2, rfl⟩ := own_slice8 hRw.choose_spec.choose_spec.1
          have c1 : wr.cell? ⟨s, 1, none⟩ = some (.slice bt (4 * n + 2 * 3) ct) := cell_of_row _ _ 1 _ _ (0, 0) hrow
          have c2' : wr.cell? ⟨s, 2, none⟩ = some (.slice b2 (4 * n + 2 * 3) c2) := cell_of_row _ _ 2 _ _ (0, 0) hrow
          have q0 : wr.cell? ⟨gb + 1 + 1, 0, none⟩ = some (.slice none 0 0) := cell_of_row _ _ 0 _ _ (0, 0) hcl
          have q1 : wr.cell? ⟨gb + 1 + 1, 1, none⟩ = some (.slice none 0 0) := cell_of_row _ _ 1 _ _ (0, 0) hcl
          have f0 : wr.frozen? ⟨gb + 1 + 1, 0, none⟩ = false := row_frozen hcl 0
          have f1 : wr.frozen? ⟨gb + 1 + 1, 1, none⟩ = false := row_frozen hcl 1
          have HRh : Hid (wr.heap[gb + 1 + 1]? = some (.cells #[.slice none 0 0, .slice none 0 0] 50 (0, 0))) := hcl
          have HNn : Hid (Nums wr (s + 1) (.slice bt (4 * n + 2 * 3) ct) (4 * n + 6) T) := hN
          have HRn : Hid (Rws wr (s + 1) (.slice b2 (4 * n + 2 * 3) c2) (4 * n + 6) (fun _ => 7 * n + 3) R) := hRw
          have HOe : Hid (Old w wr) := HOw.out.trans HL.out.old
          clear hrow hN hRw hcl HL HSum HX HCc HL5 HOw
          go_wp2_with fail
          exact bodyPost_ret (result_pair (b := gb + 1 + 1) rfl rfl rfl (load_two HRh.out Tryz.underlying50 info_claim)) rfl (givD_yes HV.out Hgb.out (by omega) HOe.out HNn.out HRn.out)
    · have HV : Hid ((true && decide (Pp 0 = D0)) = false) := by unfold Hid; simp [hd]
      have hne : Value.bool (!(Pp 0 == D0)) = .bool true := by simp [hd]
      go_enter Tryz.func28, Tryz.ntmps28
      go_upto_region 1 with fail
      generalize ((w.alloc (.cells (gc P Q G H a m cap) 25)).alloc (.cells (tkc ba n ca X bb n cb Y Z (some ⟨bp, op, none⟩) n cp) 41)).alloc (.cells (cc none 0 0 none 0 0) 50) = W1 at *
      have HG : Hid (∀ wx, Old W1 wx → wx.heap[w.heap.size]? = some (.cells (gc P Q G H a m cap) 25 (0, 0))) := HG0
      have HTk : Hid (∀ wx, Old W1 wx → wx.heap[w.heap.size + 1]? = some (.cells (tkc ba n ca X bb n cb Y Z (some ⟨bp, op, none⟩) n cp) 41 (0, 0))) := HT0
      have HCl : Hid (∀ wx, Old W1 wx → wx.heap[w.heap.size + 1 + 1]? = some (.cells (cc none 0 0 none 0 0) 50 (0, 0))) := HC0
      clear HG0 HT0 HC0
      obtain ⟨gb, hgb⟩ : ∃ gb, gb = w.heap.size := ⟨_, rfl⟩
      rw [← hgb] at HG HTk HCl
      rw [← hgb]
      have Hgb : Hid (w.heap.size ≤ gb + 1 + 1) := by unfold Hid; omega
      clear hgb
      refine wp_region_tab 24 [.k (.slice bi n ci), .k (.slice bo n co), .k (tk ba n ca X bb n cb Y Z (some ⟨bp, op, none⟩) n cp), .k (.bool true), .k (.bool false), .k (.bool false), .k (gv P Q G H a m cap), .k (.int .u64 y), .k (.slice bi n ci), .k (.slice bo n co), .k (tk ba n ca X bb n cb Y Z (some ⟨bp, op, none⟩) n cp), .k (.bool true), .k (.bool false), .k (.bool false), .k (.bool false), .k (.pointer (some ⟨gb + 1, 5, none⟩)), .k (.slice (some ⟨bp, op, none⟩) n cp), .k (.pointer (some ⟨bp, op, none⟩)), .k (.int .u64 (Pp 0)), .k (gv P Q G H a m cap), .k (tk ba n ca X bb n cb Y Z (some ⟨bp, op, none⟩) n cp), .k (.int .u64 D0), .k (.bool true), .k (.bool true)] (Old W1) (by kernel_rfl) (by kernel_rfl) rfl ((Old.refl _).drew) ?st ?_
      case st =>
        refine .c stp <|
          .c stp <|
          .c (sts Tryz.underlying41 HTk.out) <|
          .c (stK old_R Tryz.func79 (fun wx _ => HSz.out wx)) <|
          .c stp <|
          .c stp <|
          .c (sts Tryz.underlying25 HG.out) <|
          .c stp <|
          .c stp <|
          .c stp <|
          .c (sts Tryz.underlying41 HTk.out) <|
          .c (stK old_R Tryz.func80 (fun wx hR => HE.out wx (HW0.out.trans hR))) <|
          .c stp <|
          .c stp <|
          .c stp <|
          .c stp <|
          .c (stf 5 Tryz.underlying29 HTk.out) <|
          .c (sti (n := n) (c := cp) (i := 0) h1n Tryz.underlying29) <|
          .c (stl Tryz.underlying22 (fun wx hx => HPc.out wx (HW0.out.trans hx))) <|
          .c (sts Tryz.underlying25 HG.out) <|
          .c (sts Tryz.underlying41 HTk.out) <|
          .c (stK old_R Tryz.func63 (fun wx hR => HJ.out wx (HW0.out.trans hR))) <|
          .c (stv (v' := .bool (!(Pp 0 == D0))) hne) <|
          .c stp .n
      intro t wx hR hk
      simp only [fill, Ent.val, List.set_cons_zero, List.set_cons_succ, List.drop_succ_cons, List.drop_zero, List.drop_nil]
      have hrow := HCl.out _ hR
      have q0 : wx.cell? ⟨gb + 1 + 1, 0, none⟩ = some (.slice none 0 0) := cell_of_row _ _ 0 _ _ (0, 0) hrow
      have q1 : wx.cell? ⟨gb + 1 + 1, 1, none⟩ = some (.slice none 0 0) := cell_of_row _ _ 1 _ _ (0, 0) hrow
      have f0 : wx.frozen? ⟨gb + 1 + 1, 0, none⟩ = false := row_frozen hrow 0
      have f1 : wx.frozen? ⟨gb + 1 + 1, 1, none⟩ = false := row_frozen hrow 1
      have HRh : Hid (wx.heap[gb + 1 + 1]? = some (.cells #[.slice none 0 0, .slice none 0 0] 50 (0, 0))) := hrow
      have HOw : Hid (Old w wx) := HW0.out.trans hR
      clear hrow hR hk HCom HPro HSum HJ HE HSz HPc HG HTk HCl
      go_wp2_with fail
      exact bodyPost_ret (result_pair (b := gb + 1 + 1) rfl rfl rfl (load_two HRh.out Tryz.underlying50 info_claim)) rfl (givD_no (W' := wx) HV.out Hgb.out HOw.out)

/-- Is there a claim of this? -/
def clmB (P Q G y : Int) (l : Nat) (C : Nat → Nat → Int) (no : Nat) (O : Nat → Nat → Int) (na : Nat) (A : Nat → Int) (nb : Nat) (B : Nat → Int) (np : Nat) (Pp : Nat → Int) (Y Z : Int) : Bool := fitB l no na nb np && (eltB P Q y l C no O na A nb B np Pp && decide (Pp 0 = bigI P Q G (A 0) (B 0) Y Z))
set_option maxRecDepth 100000 in
set_option maxHeartbeats 8000000 in
theorem sclaim_any (P Q G H : Int) (a : Option Addr) (m cap : Nat) (y : Int) (bi : Option Addr) (l ci : Nat) (C : Nat → Nat → Int) (bo : Option Addr) (no co : Nat) (O : Nat → Nat → Int) (ba : Option Addr) (na ca : Nat) (A : Nat → Int) (X : Int) (bb : Option Addr) (nb cb : Nat) (B : Nat → Int) (Y Z : Int) (bp : Option Addr) (np cp : Nat) (Pp : Nat → Int) (w : World) (hl : l ≤ 9223372036854775807) (h4 : Four P Q G H) (hr : Righ P Q G) (hy : U64 y) (hX : U64 X) (hY : U64 Y) (hZ : U64 Z) (hC : BoxsIn w bi l C) (hO : BoxsIn w bo no O) (hA : FacsIn w ba na A) (hB : FacsIn w bb nb B) (hP : FacsIn w bp np Pp) :
    Calls Tryz.prog 28 #[gv P Q G H a m cap, .int .u64 y, .slice bi l ci, .slice bo no co, tk ba na ca X bb nb cb Y Z bp np cp] w (GivD w (clmB P Q G y l C no O na A nb B np Pp Y Z) (4 * l + 6) (tgtT P Q G X Y Z l A B Pp (fun j w => C j (2 * w)) (fun j w => C j (2 * w + 1))) (fun _ => 7 * l + 3) (bas8 l Pp G H y (fun j w => O j (2 * w)) (fun j w => O j (2 * w + 1)))) := by
  cases hf : fitB l no na nb np with
  | true =>
    obtain ⟨⟨h1, h8⟩, e1, e2, e3, e4⟩ := fitB_iff.1 hf
    subst e1 e2 e3 e4
    unfold clmB
    rw [hf, Bool.true_and]
    exact lclm_any P Q G H a m cap y bi ci C bo co O ba ca A X bb cb B Y Z bp cp Pp _ w h1 h8 h4 hr hy hX hY hZ hC hO hA hB hP
  | false =>
    have HV : Hid (clmB P Q G y l C no O na A nb B np Pp Y Z = false) := by unfold Hid clmB; rw [hf]; rfl
    have HSz : Hid (∀ wx, Calls Tryz.prog 79 #[.slice bi l ci, .slice bo no co, tk ba na ca X bb nb cb Y Z bp np cp] wx (Ret wx (.bool false))) := fun wx => by
      have := ssizes_any bi l ci bo no co ba na ca X bb nb cb Y Z bp np cp wx hl
      rwa [hf] at this
    have HZ := lain3 w (gc P Q G H a m cap) (tkc ba na ca X bb nb cb Y Z bp np cp) (cc none 0 0 none 0 0) 25 41 50
    have HT0 := fun w' ho => (HZ.then (W' := w') ho).row 1 (by simp)
    have HC0 := fun w' ho => (HZ.then (W' := w') ho).row 2 (by simp)
    have HW0 : Hid (Old w (((w.alloc (.cells (gc P Q G H a m cap) 25)).alloc (.cells (tkc ba na ca X bb nb cb Y Z bp np cp) 41)).alloc (.cells (cc none 0 0 none 0 0) 50))) := HZ.old
    clear HZ h4 hr hy hX hY hZ hC hO hA hB hP hl hf
    generalize clmB P Q G y l C no O na A nb B np Pp Y Z = ok at *
    generalize tgtT P Q G X Y Z l A B Pp (fun j w => C j (2 * w)) (fun j w => C j (2 * w + 1)) = T at *
    generalize bas8 l Pp G H y (fun j w => O j (2 * w)) (fun j w => O j (2 * w + 1)) = R at *
    go_enter Tryz.func28, Tryz.ntmps28
    go_upto_region 1 with fail
    generalize ((w.alloc (.cells (gc P Q G H a m cap) 25)).alloc (.cells (tkc ba na ca X bb nb cb Y Z bp np cp) 41)).alloc (.cells (cc none 0 0 none 0 0) 50) = W1 at *
    have HTk : Hid (∀ wx, Old W1 wx → wx.heap[w.heap.size + 1]? = some (.cells (tkc ba na ca X bb nb cb Y Z bp np cp) 41 (0, 0))) := HT0
    have HCl : Hid (∀ wx, Old W1 wx → wx.heap[w.heap.size + 1 + 1]? = some (.cells (cc none 0 0 none 0 0) 50 (0, 0))) := HC0
    clear HT0 HC0
    obtain ⟨gb, hgb⟩ : ∃ gb, gb = w.heap.size := ⟨_, rfl⟩
    rw [← hgb] at HTk HCl
    rw [← hgb]
    have Hgb : Hid (w.heap.size ≤ gb + 1 + 1) := by unfold Hid; omega
    clear hgb
    refine wp_region_tab 24 [.k (.slice bi l ci), .k (.slice bo no co), .k (tk ba na ca X bb nb cb Y Z bp np cp), .k (.bool false), .k (.bool true), .k (.bool true), .k undef, .k undef, .k undef, .k undef, .k undef, .k undef, .k undef, .k (.bool true), .k (.bool true), .k undef, .k undef, .k undef, .k undef, .k undef, .k undef, .k undef, .k undef, .k (.bool true)] (Old W1) (by kernel_rfl) (by kernel_rfl) rfl ((Old.refl _).drew) ?st ?_
    case st =>
      refine .c stp <|
        .c stp <|
        .c (sts Tryz.underlying41 HTk.out) <|
        .c (stK old_R Tryz.func79 (fun wx _ => HSz.out wx)) <|
        .c stp <|
        .c stp <|
        .c stn <|
        .c stn <|
        .c stn <|
        .c stn <|
        .c stn <|
        .c stn <|
        .c stn <|
        .c stp <|
        .c stp <|
        .c stn <|
        .c stn <|
        .c stn <|
        .c stn <|
        .c stn <|
        .c stn <|
        .c stn <|
        .c stn <|
        .c stp .n
    intro t wx hR hk
    simp only [fill, Ent.val, List.set_cons_zero, List.set_cons_succ, List.drop_succ_cons, List.drop_zero, List.drop_nil]
    have hrow := HCl.out _ hR
    have q0 : wx.cell? ⟨gb + 1 + 1, 0, none⟩ = some (.slice none 0 0) := cell_of_row _ _ 0 _ _ (0, 0) hrow
    have q1 : wx.cell? ⟨gb + 1 + 1, 1, none⟩ = some (.slice none 0 0) := cell_of_row _ _ 1 _ _ (0, 0) hrow
    have f0 : wx.frozen? ⟨gb + 1 + 1, 0, none⟩ = false := row_frozen hrow 0
    have f1 : wx.frozen? ⟨gb + 1 + 1, 1, none⟩ = false := row_frozen hrow 1
    have HRh : Hid (wx.heap[gb + 1 + 1]? = some (.cells #[.slice none 0 0, .slice none 0 0] 50 (0, 0))) := hrow
    have HOw : Hid (Old w wx) := HW0.out.trans hR
    clear hrow hR hk HSz HTk HCl
    go_wp2_with fail
    exact bodyPost_ret (result_pair (b := gb + 1 + 1) rfl rfl rfl (load_two HRh.out Tryz.underlying50 info_claim)) rfl (givD_no (W' := wx) HV.out Hgb.out HOw.out)

end Go.Proofs.YtlnmjbbpenhdbaaGreat

namespace Go.Proofs.YtlnmjbbpenhdbaaGreat
open Go Go.RowKit
theorem run_enter_fn {P : Program} {a : Act} {w : World} {f : FuncId} {fn : Func} {c : Code} {x : Operand} {caps : Array Value} {os : Array Operand} {tys : Array TypeId} {dst : Option Tmp} {ty : TypeId} {pos : String} {after : Array Edge} {guard : Option (Nat × Bool)} (hf : P.funcs[f]? = some fn) (hn : (fn.name == "runtime.NumGoroutine") = false) (hb : fn.body = some c) (hx : a.eval x = .func (.func f) #[] caps) : (execOp a.eval ⟨dst, .call ⟨.value x, os, tys⟩, ty, pos, after, guard⟩).run P w = .ok (.enter f (os.map a.eval ++ caps)) w := by
  have h1 : ¬ fn.name = "runtime.NumGoroutine" := by simpa using hn
  generalize a.eval = ev at hx ⊢
  simp [execOp, resolve, hx, callFunc, hf, h1, hb, go_sem]
/-- A call of a closure. -/
theorem stCf {P : Program} {ops : List Oper} {L0 : List Value} {E : List Ent} {R : World → Prop} {e : Ent} {f : FuncId} {fn : Func} {c : Code} {x : Operand} {os : Array Operand} {tys : Array TypeId} {dst : Option Tmp} {ty : TypeId} {pos : String} {after : Array Edge} {guard : Option (Nat × Bool)} (caps : Array Value) {args : (Nat → Value) → Array Value} (hR : ∀ w w', R w → Old w w' → R w') (hf : P.funcs[f]? = some fn)
    (h : ∀ (t : Nat → Value) (wx : World), R wx → (∀ k, (after.any fun e => Region.binds .any e && e.on == k) = true → okAt E k (t k) wx) → Calls P f (args t) wx fun r w' => ∃ v, r = .returned v ∧ Old wx w' ∧ e.ok v w')
    (hg : guardT E ⟨dst, .call ⟨.value x, os, tys⟩, ty, pos, after, guard⟩ = some true := by rfl) (hn : (fn.name == "runtime.NumGoroutine") = false := by decide) (hb : fn.body = some c := by rfl) (hfx : ∀ t, Act.eval ⟨(fill ops E t 0 L0).toArray, []⟩ x = .func (.func f) #[] caps := by intro _; kernel_rfl) (hx : ∀ t, os.map (Act.eval ⟨(fill ops E t 0 L0).toArray, []⟩) ++ caps = args t := by intro _; kernel_rfl) : StepT P ops L0 E R ⟨dst, .call ⟨.value x, os, tys⟩, ty, pos, after, guard⟩ e :=
  stc hg hR (fun t wx => by rw [run_enter_fn hf hn hb (hfx t), hx t]) h
/-- One list, two lists, as a list of lists. -/
def one8 {α : Type} (x : α) : Nat → α := fun _ => x
def two8f {α : Type} (x y : α) : Nat → α | 0 => x | _ => y
theorem lists_one {w : World} {b : Nat} {ba : Option Addr} {na ca : Nat} {A : Nat → Int} (h : w.heap[b]? = some (.cells #[.slice ba na ca] 29 (0, 0))) (h1 : na ≤ ca) (h2 : ca ≤ 9223372036854775807) (hf : FacsIn w ba na A) : ListsIn w (some ⟨b, 0, none⟩) 1 (one8 ba) (one8 na) (one8 ca) (one8 A) :=
  Or.inr ⟨b, 0, rfl, obj_lt h, fun j hj => by
    have : j = 0 := by omega
    subst this
    exact ⟨(cell_of_row _ _ 0 _ _ (0, 0) h).trans rfl, h1, h2, hf⟩⟩
theorem lists_two {w : World} {b : Nat} {ba bb : Option Addr} {na ca nb cb : Nat} {A B : Nat → Int} (h : w.heap[b]? = some (.cells #[.slice ba na ca, .slice bb nb cb] 29 (0, 0))) (h1 : na ≤ ca) (h2 : ca ≤ 9223372036854775807) (h3 : nb ≤ cb) (h4 : cb ≤ 9223372036854775807) (hf : FacsIn w ba na A) (hg : FacsIn w bb nb B) : ListsIn w (some ⟨b, 0, none⟩) 2 (two8f ba bb) (two8f na nb) (two8f ca cb) (two8f A B) :=
  Or.inr ⟨b, 0, rfl, obj_lt h, fun j hj => by
    match j, hj with
    | 0, _ => exact ⟨(cell_of_row _ _ 0 _ _ (0, 0) h).trans rfl, h1, h2, hf⟩
    | 1, _ => exact ⟨(cell_of_row _ _ 1 _ _ (0, 0) h).trans rfl, h3, h4, hg⟩⟩
/-- The challenges of a talk: x of A, y and z of A and B. -/
def chX (label : List Int) (Q : Int) (K : Nat → List Int) (n : Nat) (A : Nat → Int) : Int := numberI label (askS [120] K (one8 A) (one8 n)) (1 + 4) Q
def chYZ (c : Int) (label : List Int) (Q : Int) (K : Nat → List Int) (n : Nat) (A B : Nat → Int) : Int := numberI label (askS [c] K (two8f A B) (two8f n n)) (2 + 4) Q
theorem u64_number (label : List Int) (S : Nat → List Int) (n : Nat) (Q : Int) : U64 (numberI label S n Q) := by
  unfold numberI
  split
  · have := numF_bd (fun i => (sumL (numL label S n)).getD i 0) Q 16
    exact ⟨this.1, Int.le_trans this.2 (by decide)⟩
  · exact ⟨Int.le_refl _, by decide⟩
/-- A list in a block of its own. -/
def blkE (n : Nat) (cs : Array Value) (T : TypeId) : Ent := .u (fun v w => ∃ b, v = .slice (some ⟨b, 0, none⟩) n n ∧ w.heap[b]? = some (.cells cs T (0, 0))) fun _ _ _ ⟨b, e, h⟩ ho => ⟨b, e, (ho.block _ (obj_lt h)).trans h⟩

end Go.Proofs.YtlnmjbbpenhdbaaGreat

namespace Go.Proofs.YtlnmjbbpenhdbaaGreat
open Go.RowKit

theorem numberI_u64 (label : List Int) (S : Nat → List Int) (n : Nat) (q : Int) : U64 (numberI label S n q) := by
  unfold numberI
  split
  · have := numF_bd (fun i => (sumL (numL label S n)).getD i 0) q 16
    exact ⟨this.1, by omega⟩
  · exact ⟨by omega, by omega⟩
theorem ch_u64 (label : List Int) (P Q G H : Int) (nt : Nat) (T : Nat → Int) (nb : Nat) (L : Nat → Nat) (B : Nat → Nat → Int) (nk : Nat) (K : Nat → Int) : U64 (chI label P Q G H nt T nb L B nk K) := numberI_u64 _ _ _ _

end Go.Proofs.YtlnmjbbpenhdbaaGreat
