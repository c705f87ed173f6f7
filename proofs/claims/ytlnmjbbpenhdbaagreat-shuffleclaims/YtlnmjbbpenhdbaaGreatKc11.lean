/-
  What is laid down third (layer 8).
  slices.Grow and slices.Concat of lists of numbers (layer 8).
-/
import Derived.Test.YtlnmjbbpenhdbaaGreatKc09
import Derived.Test.YtlnmjbbpenhdbaaGreatKc10
import Derived.Test.YtlnmjbbpenhdbaaGreatKc08
import Derived.Lib.SliceRun
import Derived.Lib.AppendZerosOnto
import Derived.Deep.AppendLies
namespace Go.Proofs.YtlnmjbbpenhdbaaGreat
open Go.RowKit
set_option linter.unusedSimpArgs false
set_option linter.unusedVariables false

abbrev dv (bρ : Option Addr) (nρ cρ : Nat) (bR : Option Addr) (nR cR : Nat) (bS : Option Addr) (nS cS : Nat) (bT : Option Addr) (nT cT : Nat) (bD : Option Addr) (nD cD : Nat) : Value := .agg #[.slice bρ nρ cρ, .slice bR nR cR, .slice bS nS cS, .slice bT nT cT, .slice bD nD cD]
abbrev dvc (bρ : Option Addr) (nρ cρ : Nat) (bR : Option Addr) (nR cR : Nat) (bS : Option Addr) (nS cS : Nat) (bT : Option Addr) (nT cT : Nat) (bD : Option Addr) (nD cD : Nat) : Array Value := #[.slice bρ nρ cρ, .slice bR nR cR, .slice bS nS cS, .slice bT nT cT, .slice bD nD cD]
/-- P of a place. -/
def thiI (P Q G H X Y Z : Int) (A B O T : Nat → Int) : Nat → Int
  | 0 => bigI P Q G (A 0) (B 0) Y Z
  | i + 1 => mulI (expI P Q (thiI P Q G H X Y Z A B O T i) (facI Q X Y Z (O (i + 1) + 1))) (expI P Q H (T (i + 1))) P
theorem thi_u64 (P Q G H X Y Z : Int) (A B O T : Nat → Int) : ∀ i, U64 (thiI P Q G H X Y Z A B O T i)
  | 0 => u64_over _ _ _
  | _ + 1 => u64_mul _ _ _
theorem u64_fac (Q X Y Z j : Int) : U64 (facI Q X Y Z j) := u64_sub _ _ _
theorem int_pred (q : Nat) (h : q ≤ 1000) : Value.int .i64 (IntKind.i64.wrap (((q + 1 : Nat) : Int) - 1)) = .int .i64 (q : Int) := by
  rw [IntKind.wrap_i64]
  congr 1
  omega

set_option maxRecDepth 100000 in
set_option maxHeartbeats 8000000 in
theorem sthird_any (P Q G H : Int) (a : Option Addr) (n cap : Nat) (bo : Option Addr) (no co : Nat) (O : Nat → Int) (ba : Option Addr) (na ca : Nat) (A : Nat → Int) (X : Int) (bb : Option Addr) (nb cb : Nat) (B : Nat → Int) (Y Z : Int) (bp : Option Addr) (np cp : Nat) (bρ : Option Addr) (nρ cρ : Nat) (bR : Option Addr) (nR cR : Nat) (bS : Option Addr) (nS cS : Nat) (bT : Option Addr) (nT cT : Nat) (T : Nat → Int) (bD : Option Addr) (nD cD : Nat) (w : World) (h4 : Four P Q G H) (hr : Righ P Q G) (hX : U64 X) (hY : U64 Y) (hZ : U64 Z) (mo : no ≤ 80) (ma : na ≤ 80) (mb : nb ≤ 80) (mT : nT ≤ 80) (hO : IntsIn w bo no O) (hA : FacsIn w ba na A) (hB : FacsIn w bb nb B) (hT : FacsIn w bT nT T) :
    Calls Tryz.prog 24 #[gv P Q G H a n cap, .slice bo no co, tk ba na ca X bb nb cb Y Z bp np cp, dv bρ nρ cρ bR nR cR bS nS cS bT nT cT bD nD cD] w (GivL w (if ordB no O && (decide (na = no) && (decide (nb = no) && decide (nT = no))) then no else 0) (thiI P Q G H X Y Z A B O T)) := by
  have HX : Hid (FacsIn w bT nT T) := hT
  have HZ := lain3 w (gc P Q G H a n cap) (tkc ba na ca X bb nb cb Y Z bp np cp) (dvc bρ nρ cρ bR nR cR bS nS cS bT nT cT bD nD cD) 25 41 31
  have HG0 := fun w' ho => (HZ.then (W' := w') ho).row 0 (by simp)
  have HT0 := fun w' ho => (HZ.then (W' := w') ho).row 1 (by simp)
  have HD0 := fun w' ho => (HZ.then (W' := w') ho).row 2 (by simp)
  have HW0 : Hid (Old w (((w.alloc (.cells (gc P Q G H a n cap) 25)).alloc (.cells (tkc ba na ca X bb nb cb Y Z bp np cp) 41)).alloc (.cells (dvc bρ nρ cρ bR nR cR bS nS cS bT nT cT bD nD cD) 31))) := HZ.old
  have HOr : Hid (∀ wx, Old w wx → Calls Tryz.prog 50 #[.slice bo no co] wx (Ret wx (.bool (ordB no O)))) := fun wx ho => sorder_any bo no co O wx (by omega) (hO.old ho)
  have hneg : ordB no O = false ∨ (ordB no O = true ∧ na ≠ no) ∨ (ordB no O = true ∧ na = no ∧ nb ≠ no) ∨ (ordB no O = true ∧ na = no ∧ nb = no ∧ nT ≠ no) ∨ (ordB no O = true ∧ na = no ∧ nb = no ∧ nT = no) := by
    cases ordB no O
    · exact Or.inl rfl
    · by_cases h1 : na = no
      · by_cases h2 : nb = no
        · by_cases h3 : nT = no
          · exact Or.inr (Or.inr (Or.inr (Or.inr ⟨rfl, h1, h2, h3⟩)))
          · exact Or.inr (Or.inr (Or.inr (Or.inl ⟨rfl, h1, h2, h3⟩)))
        · exact Or.inr (Or.inr (Or.inl ⟨rfl, h1, h2⟩))
      · exact Or.inr (Or.inl ⟨rfl, h1⟩)
  rcases hneg with ho | ⟨ho, h1⟩ | ⟨ho, rfl, h2⟩ | ⟨ho, rfl, rfl, h3⟩ | ⟨ho, rfl, rfl, rfl⟩
  · rw [ho] at HOr
    rw [ho, Bool.false_and, if_neg (by simp)]
    clear ho hO hA hB hT h4 hr
    go_enter Tryz.func24, Tryz.ntmps24
    go_upto_region 1 with fail
    generalize ((w.alloc (.cells (gc P Q G H a n cap) 25)).alloc (.cells (tkc ba na ca X bb nb cb Y Z bp np cp) 41)).alloc (.cells (dvc bρ nρ cρ bR nR cR bS nS cS bT nT cT bD nD cD) 31) = W at *
    have d0 := cell_of_row _ _ 0 _ _ (0, 0) (HT0 _ (Old.refl _))
    have d2 := cell_of_row _ _ 2 _ _ (0, 0) (HT0 _ (Old.refl _))
    have e3 := cell_of_row _ _ 3 _ _ (0, 0) (HD0 _ (Old.refl _))
    clear HG0
    go_wp2_with (go_at_call 50; refine (HOr.out _ HW0.out).mono ?_; rintro e w1 ⟨rfl, o1⟩; have d0 := cell_of_row _ _ 0 _ _ (0, 0) (HT0 _ o1); have d2 := cell_of_row _ _ 2 _ _ (0, 0) (HT0 _ o1); have e3 := cell_of_row _ _ 3 _ _ (0, 0) (HD0 _ o1))
    go_ret
    exact givL_none _ (HW0.out.trans o1)
  · rw [ho] at HOr
    have k1 : ((na : Int) != (no : Int)) = true := by simp; omega
    have k2 : ¬ (na : Int) = (no : Int) := by omega
    rw [show (ordB no O && (decide (na = no) && (decide (nb = no) && decide (nT = no)))) = false by simp [h1], if_neg (by simp)]
    clear ho hO hA hB hT h4 hr
    go_enter Tryz.func24, Tryz.ntmps24
    go_upto_region 1 with fail
    generalize ((w.alloc (.cells (gc P Q G H a n cap) 25)).alloc (.cells (tkc ba na ca X bb nb cb Y Z bp np cp) 41)).alloc (.cells (dvc bρ nρ cρ bR nR cR bS nS cS bT nT cT bD nD cD) 31) = W at *
    have d0 := cell_of_row _ _ 0 _ _ (0, 0) (HT0 _ (Old.refl _))
    have d2 := cell_of_row _ _ 2 _ _ (0, 0) (HT0 _ (Old.refl _))
    have e3 := cell_of_row _ _ 3 _ _ (0, 0) (HD0 _ (Old.refl _))
    clear HG0
    go_wp2_with (go_at_call 50; refine (HOr.out _ HW0.out).mono ?_; rintro e w1 ⟨rfl, o1⟩; have d0 := cell_of_row _ _ 0 _ _ (0, 0) (HT0 _ o1); have d2 := cell_of_row _ _ 2 _ _ (0, 0) (HT0 _ o1); have e3 := cell_of_row _ _ 3 _ _ (0, 0) (HD0 _ o1))
    go_ret
    exact givL_none _ (HW0.out.trans o1)
  · rw [ho] at HOr
    have k1 : ((nb : Int) != (na : Int)) = true := by simp; omega
    have k2 : ¬ (nb : Int) = (na : Int) := by omega
    rw [show (ordB na O && (decide (na = na) && (decide (nb = na) && decide (nT = na)))) = false by simp [h2], if_neg (by simp)]
    clear ho hO hA hB hT h4 hr
    go_enter Tryz.func24, Tryz.ntmps24
    go_upto_region 1 with fail
    generalize ((w.alloc (.cells (gc P Q G H a n cap) 25)).alloc (.cells (tkc ba na ca X bb nb cb Y Z bp np cp) 41)).alloc (.cells (dvc bρ nρ cρ bR nR cR bS nS cS bT nT cT bD nD cD) 31) = W at *
    have d0 := cell_of_row _ _ 0 _ _ (0, 0) (HT0 _ (Old.refl _))
    have d2 := cell_of_row _ _ 2 _ _ (0, 0) (HT0 _ (Old.refl _))
    have e3 := cell_of_row _ _ 3 _ _ (0, 0) (HD0 _ (Old.refl _))
    clear HG0
    go_wp2_with (go_at_call 50; refine (HOr.out _ HW0.out).mono ?_; rintro e w1 ⟨rfl, o1⟩; have d0 := cell_of_row _ _ 0 _ _ (0, 0) (HT0 _ o1); have d2 := cell_of_row _ _ 2 _ _ (0, 0) (HT0 _ o1); have e3 := cell_of_row _ _ 3 _ _ (0, 0) (HD0 _ o1))
    go_ret
    exact givL_none _ (HW0.out.trans o1)
  · rw [ho] at HOr
    have k1 : ((nT : Int) != (nb : Int)) = true := by simp; omega
    have k2 : ¬ (nT : Int) = (nb : Int) := by omega
    rw [show (ordB nb O && (decide (nb = nb) && (decide (nb = nb) && decide (nT = nb)))) = false by simp [h3], if_neg (by simp)]
    clear ho hO hA hB hT h4 hr
    go_enter Tryz.func24, Tryz.ntmps24
    go_upto_region 1 with fail
    generalize ((w.alloc (.cells (gc P Q G H a n cap) 25)).alloc (.cells (tkc ba nb ca X bb nb cb Y Z bp np cp) 41)).alloc (.cells (dvc bρ nρ cρ bR nR cR bS nS cS bT nT cT bD nD cD) 31) = W at *
    have d0 := cell_of_row _ _ 0 _ _ (0, 0) (HT0 _ (Old.refl _))
    have d2 := cell_of_row _ _ 2 _ _ (0, 0) (HT0 _ (Old.refl _))
    have e3 := cell_of_row _ _ 3 _ _ (0, 0) (HD0 _ (Old.refl _))
    clear HG0
    go_wp2_with (go_at_call 50; refine (HOr.out _ HW0.out).mono ?_; rintro e w1 ⟨rfl, o1⟩; have d0 := cell_of_row _ _ 0 _ _ (0, 0) (HT0 _ o1); have d2 := cell_of_row _ _ 2 _ _ (0, 0) (HT0 _ o1); have e3 := cell_of_row _ _ 3 _ _ (0, 0) (HD0 _ o1))
    go_ret
    exact givL_none _ (HW0.out.trans o1)
  · rw [ho] at HOr
    have hP := ordB_iff.1 ho
    rw [show (ordB nT O && (decide (nT = nT) && (decide (nT = nT) && decide (nT = nT)))) = true by simp [ho], if_pos rfl]
    clear ho
    have HB0 : Hid (∀ i, i < nT → 0 ≤ O i ∧ O i < 1000) := fun i hi => by have := hP.2.1 i hi; omega
    have m0 : 0 < nT := hP.1
    have HCo : Hid (∀ wx, Old w wx → Calls Tryz.prog 58 #[.slice bo nT co] wx (GivF wx nT (fun i => O i + 1))) := fun wx hx => scounted_any bo nT co O wx mT (hO.old hx) HB0.out
    obtain ⟨F, hF⟩ : ∃ F : Nat → Int, F = thiI P Q G H X Y Z A B O T := ⟨_, rfl⟩
    have HF0 : Hid (F 0 = bigI P Q G (A 0) (B 0) Y Z) := by rw [hF]; exact rfl
    obtain ⟨K, hK0⟩ : ∃ K : Nat → Int, K = fun i => O i + 1 := ⟨_, rfl⟩
    have HFs : Hid (∀ i, F (i + 1) = mulI (expI P Q (F i) (facI Q X Y Z (K (i + 1)))) (expI P Q H (T (i + 1))) P) := fun i => by rw [hF, hK0]; exact rfl
    have HFu : Hid (∀ i, U64 (F i)) := fun i => by rw [hF]; exact thi_u64 _ _ _ _ _ _ _ _ _ _ _ i
    have HKu : Hid (∀ i, i < nT → U64 (K i)) := fun i hi => by rw [hK0]; have := HB0.out i hi; exact ⟨by show 0 ≤ O i + 1; omega, by show O i + 1 ≤ _; omega⟩
    have HTu : Hid (∀ i, i < nT → U64 (T i)) := hT.u64
    have HJ : Hid (∀ wx, Old w wx → Calls Tryz.prog 63 #[gv P Q G H a n cap, tk ba nT ca X bb nT cb Y Z bp np cp, .int .i64 0] wx (Ret wx (.int .u64 (F 0)))) := fun wx hx => by rw [HF0.out]; exact sjoined_any P Q G H a n cap ba nT ca A X bb nT cb B Y Z bp np cp 0 wx h4 hr hY hZ (hA.old hx) (hB.old hx) m0 m0
    have HEx : Hid (∀ i wx, i + 1 < nT → Calls Tryz.prog 65 #[gv P Q G H a n cap, .int .u64 (F i), .int .u64 (facI Q X Y Z (K (i + 1)))] wx (Ret wx (.int .u64 (expI P Q (F i) (facI Q X Y Z (K (i + 1))))))) := fun i wx _ => gexp_any P Q G H (F i) _ a n cap wx h4 hr (HFu.out i).1 (HFu.out i).2 (u64_fac _ _ _ _ _).1 (u64_fac _ _ _ _ _).2
    have HEh : Hid (∀ i wx, i < nT → Calls Tryz.prog 65 #[gv P Q G H a n cap, .int .u64 H, .int .u64 (T i)] wx (Ret wx (.int .u64 (expI P Q H (T i))))) := fun i wx hi => gexp_any P Q G H H (T i) a n cap wx h4 hr h4.h0 h4.h1 (HTu.out i hi).1 (HTu.out i hi).2
    rw [← hF]
    rw [← hK0] at HCo
    have H4 : Hid (Four P Q G H) := h4
    have HRi : Hid (Righ P Q G) := hr
    clear hF hK0 hP HB0 hO hA hB hT h4 hr HF0
    have hmk := make_run nT mT
    go_enter Tryz.func24, Tryz.ntmps24
    go_upto_region 1 with fail
    generalize ((w.alloc (.cells (gc P Q G H a n cap) 25)).alloc (.cells (tkc ba nT ca X bb nT cb Y Z bp np cp) 41)).alloc (.cells (dvc bρ nρ cρ bR nR cR bS nS cS bT nT cT bD nD cD) 31) = W at *
    have HG : Hid (∀ wx, Old W wx → wx.heap[w.heap.size]? = some (.cells (gc P Q G H a n cap) 25 (0, 0))) := HG0
    have HT : Hid (∀ wx, Old W wx → wx.heap[w.heap.size + 1]? = some (.cells (tkc ba nT ca X bb nT cb Y Z bp np cp) 41 (0, 0))) := HT0
    have HD : Hid (∀ wx, Old W wx → wx.heap[w.heap.size + 1 + 1]? = some (.cells (dvc bρ nρ cρ bR nR cR bS nS cS bT nT cT bD nD cD) 31 (0, 0))) := HD0
    clear HG0 HT0 HD0
    have d0 := cell_of_row _ _ 0 _ _ (0, 0) (HT.out _ (Old.refl _))
    have d2 := cell_of_row _ _ 2 _ _ (0, 0) (HT.out _ (Old.refl _))
    have e3 := cell_of_row _ _ 3 _ _ (0, 0) (HD.out _ (Old.refl _))
    go_upto_region 4 with (go_at_call 50; refine (HOr.out _ HW0.out).mono ?_; rintro e w1 ⟨rfl, o1⟩; have d0 := cell_of_row _ _ 0 _ _ (0, 0) (HT.out _ o1); have d2 := cell_of_row _ _ 2 _ _ (0, 0) (HT.out _ o1); have e3 := cell_of_row _ _ 3 _ _ (0, 0) (HD.out _ o1))
    clear d0 d2 e3
    go_upto_region 5 with (go_at_call 58; refine (HCo.out _ (HW0.out.trans o1)).mono ?_; rintro e w2 ⟨o2, bk, hbk, rfl, hful⟩; have HK2 : Hid (Full w2 bk nT K) := hful; have HW2 : Hid (Old W w2) := o1.trans o2; clear hful)
    clear d0 d2 e3
    go_upto_region 6 with fail
    have HFz := full_zero w2 nT F
    have HW3 : Hid (Old W (w2.alloc (.cells (madeCells #[Value.int .u64 0] nT) 22))) := HW2.out.alloc _
    have HK3 : Hid (Full (w2.alloc (.cells (madeCells #[Value.int .u64 0] nT) 22)) bk nT K) := HK2.out.old ((Old.refl _).alloc _)
    have hs2 := HW2.out.size
    have hne : bk ≠ w2.heap.size := by have := HK2.out.lt; omega
    generalize w2.alloc (.cells (madeCells #[Value.int .u64 0] nT) 22) = W3 at *
    generalize w2.heap.size = bl at *
    have g0 := HG.out _ HW3.out
    have t0 := HT.out _ HW3.out
    have i0 : (0 : Int) < (nT : Int) := by omega
    have dd0 := cell_of_row _ _ 0 _ _ (0, 0) g0
    have dd1 := cell_of_row _ _ 1 _ _ (0, 0) g0
    have dd2 := cell_of_row _ _ 2 _ _ (0, 0) g0
    have dd3 := cell_of_row _ _ 3 _ _ (0, 0) g0
    have dd4 := cell_of_row _ _ 4 _ _ (0, 0) g0
    have tt0 := cell_of_row _ _ 0 _ _ (0, 0) t0
    have tt1 := cell_of_row _ _ 1 _ _ (0, 0) t0
    have tt2 := cell_of_row _ _ 2 _ _ (0, 0) t0
    have tt3 := cell_of_row _ _ 3 _ _ (0, 0) t0
    have tt4 := cell_of_row _ _ 4 _ _ (0, 0) t0
    have tt5 := cell_of_row _ _ 5 _ _ (0, 0) t0
    go_upto_region 7 with (go_at_call 63; refine (HJ.out _ (HW0.out.trans HW3.out)).mono ?_; rintro e w4 ⟨rfl, o4⟩; have HF4 : Hid (Full w4 bl nT (upTo 0 F)) := HFz.old o4; have q0 := HF4.out.cell 0 m0; have f0 := HF4.out.free 0)
    have HF5 : Hid (Full (w4.setCell ⟨bl, 0, none⟩ (.int .u64 (F 0))) bl nT (upTo (0 + 1) F)) := HF4.out.next
    have HK5 : Hid (Full (w4.setCell ⟨bl, 0, none⟩ (.int .u64 (F 0))) bk nT K) := (HK3.out.old o4).other (p := ⟨bl, 0, none⟩) hne _
    have HW5 : Hid (Old W (w4.setCell ⟨bl, 0, none⟩ (.int .u64 (F 0)))) := (HW3.out.trans o4).setCell hs2 _
    generalize w4.setCell ⟨bl, 0, none⟩ (.int .u64 (F 0)) = W5 at *
    clear g0 t0 dd0 dd1 dd2 dd3 dd4 tt0 tt1 tt2 tt3 tt4 tt5 q0 f0 o4 HF4 HFz
    go_upto_region 8 with fail
    go_loopw [12] (fun iv wx => ∃ i : Nat, iv = .int .i64 ((i + 1 : Nat) : Int) ∧ i + 1 ≤ nT ∧ Hid (Full wx bl nT (upTo (i + 1) F)) ∧ Hid (Full wx bk nT K) ∧ Hid (Old W wx)) (fun iv _ => nT - (intOf iv).toNat)
    case atStart => exact ⟨0, rfl, by omega, HF5, HK5, HW5⟩
    case round =>
      obtain ⟨i, rfl, hi1, HN, HKx, HW⟩ := hrel
      by_cases hlt : i + 1 < nT
      · rcases HX.out with h0 | ⟨bx, ox, hqx, _, hrx⟩
        · omega
        have HTc : Hid (∀ wx, Old wr wx → wx.cell? ⟨bx, ox + (i + 1), none⟩ = some (.int .u64 (T (i + 1)))) := fun wx hx => ((HW0.out.trans HW.out).trans hx).cellOf (hrx (i + 1) hlt).1
        have HLc : Hid (∀ wx, Old wr wx → wx.cell? ⟨bl, i, none⟩ = some (.int .u64 (F i))) := fun wx hx => by have := (HN.out.old hx).cell i (by omega); rwa [show upTo (i + 1) F i = F i by simp [upTo]] at this
        have HKc : Hid (∀ wx, Old wr wx → wx.cell? ⟨bk, i + 1, none⟩ = some (.int .u64 (K (i + 1)))) := fun wx hx => (HKx.out.old hx).cell (i + 1) hlt
        have HGr : Hid (∀ wx, Old wr wx → wx.heap[w.heap.size]? = some (.cells (gc P Q G H a n cap) 25 (0, 0))) := fun wx hx => HG.out _ (HW.out.trans hx)
        have HTr : Hid (∀ wx, Old wr wx → wx.heap[w.heap.size + 1]? = some (.cells (tkc ba nT ca X bb nT cb Y Z bp np cp) 41 (0, 0))) := fun wx hx => HT.out _ (HW.out.trans hx)
        have HDr : Hid (∀ wx, Old wr wx → wx.heap[w.heap.size + 1 + 1]? = some (.cells (dvc bρ nρ cρ bR nR cR bS nS cS (some ⟨bx, ox, none⟩) nT cT bD nD cD) 31 (0, 0))) := fun wx hx => by have := HD.out _ (HW.out.trans hx); rwa [hqx] at this
        clear hrx
        subst hqx
        go_upto_region 10 with fail
        refine wp_region_tab 29 [.k (.slice (some ⟨bl, 0, none⟩) nT nT), .k (.int .i64 ((i + 1 : Nat) : Int)), .k (gv P Q G H a n cap), .k (gv P Q G H a n cap), .k (.slice (some ⟨bl, 0, none⟩) nT nT), .k (.int .i64 ((i + 1 : Nat) : Int)), .k (.int .i64 (i : Int)), .k (.pointer (some ⟨bl, i, none⟩)), .k (.int .u64 (F i)), .k (gv P Q G H a n cap), .k (tk ba nT ca X bb nT cb Y Z bp np cp), .k (.slice (some ⟨bk, 0, none⟩) nT nT), .k (.int .i64 ((i + 1 : Nat) : Int)), .k (.pointer (some ⟨bk, i + 1, none⟩)), .k (.int .u64 (K (i + 1))), .k (.int .u64 (facI Q X Y Z (K (i + 1)))), .k (.int .u64 (expI P Q (F i) (facI Q X Y Z (K (i + 1))))), .k (gv P Q G H a n cap), .k (.pointer (some ⟨w.heap.size, 3, none⟩)), .k (.int .u64 H), .k (.pointer (some ⟨w.heap.size + 1 + 1, 3, none⟩)), .k (.slice (some ⟨bx, ox, none⟩) nT cT), .k (.int .i64 ((i + 1 : Nat) : Int)), .k (.pointer (some ⟨bx, ox + (i + 1), none⟩)), .k (.int .u64 (T (i + 1))), .k (.int .u64 (expI P Q H (T (i + 1)))), two8 W.heap.size (expI P Q (F i) (facI Q X Y Z (K (i + 1)))) (expI P Q H (T (i + 1))), .k (.int .u64 (F (i + 1))), .k (.pointer (some ⟨bl, i + 1, none⟩))] (Old wr) (by kernel_rfl) (by kernel_rfl) rfl ((Old.refl _).drew) ?st ?_
        case st =>
          refine .c stp <|
            .c stp <|
            .c (sts Tryz.underlying25 HGr.out) <|
            .c (sts Tryz.underlying25 HGr.out) <|
            .c stp <|
            .c stp <|
            .c (stv (v' := .int .i64 (IntKind.i64.wrap (((i + 1 : Nat) : Int) - 1))) (int_pred i (by omega))) <|
            .c (sti0 (n := nT) (c := nT) (by omega) Tryz.underlying29) <|
            .c (stl Tryz.underlying22 HLc.out) <|
            .c (sts Tryz.underlying25 HGr.out) <|
            .c (sts Tryz.underlying41 HTr.out) <|
            .c stp <|
            .c stp <|
            .c (sti0 (n := nT) (c := nT) (i := i + 1) hlt Tryz.underlying29) <|
            .c (stl Tryz.underlying22 HKc.out) <|
            .c (stK old_R Tryz.func66 (fun wx _ => sfactor_any P Q G H a n cap ba nT ca X bb nT cb Y Z bp np cp _ wx hX hY hZ (HKu.out _ hlt))) <|
            .c (stK old_R Tryz.func65 (fun wx _ => HEx.out i wx hlt)) <|
            .c (sts Tryz.underlying25 HGr.out) <|
            .c stp <|
            .c (stf 3 Tryz.underlying22 HGr.out) <|
            .c stp <|
            .c (stf 3 Tryz.underlying29 HDr.out) <|
            .c stp <|
            .c (sti (n := nT) (c := cT) (i := i + 1) hlt Tryz.underlying29) <|
            .c (stl Tryz.underlying22 HTc.out) <|
            .c (stK old_R Tryz.func65 (fun wx _ => HEh.out (i + 1) wx hlt)) <|
            .c (stm (ob := fun t => .cells #[.int .u64 (expI P Q (F i) (facI Q X Y Z (K (i + 1)))), .int .u64 (expI P Q H (T (i + 1)))] 22) (v := fun s => .slice (some ⟨s, 0, none⟩) 2 2) old_R fun t wx hR hd => ⟨_, rfl, nums_new wx W.heap.size 2 [.int .u64 (expI P Q (F i) (facI Q X Y Z (K (i + 1)))), .int .u64 (expI P Q H (T (i + 1)))] (two7 _ _) (HW.out.trans hR).size (by omega) rfl⟩) <|
            .c (stC (args := fun t => #[gv P Q G H a n cap, t 26]) old_R Tryz.func64 fun t wx hR hd => ?_) <|
            .c (sti0 (n := nT) (c := nT) (i := i + 1) hlt Tryz.underlying29) .n
          obtain ⟨b, e, hN⟩ := hd 26 (by kernel_rfl)
          rw [e] at hN ⊢
          exact (gprod7 P Q G H a n cap _ _ H4.out HRi.out (u64_exp _ _ _ _) (u64_exp _ _ _ _) hN).mono fun r w' ⟨h, k⟩ => ⟨_, h, k, by rw [← HFs.out i]; exact rfl⟩
        intro t wx hR hk
        simp only [fill, Ent.val, two8, List.set_cons_zero, List.set_cons_succ, List.drop_succ_cons, List.drop_zero, List.drop_nil]
        have HNx : Hid (Full wx bl nT (upTo (i + 1) F)) := HN.out.old hR
        have HG1 : Hid (Full (wx.setCell ⟨bl, i + 1, none⟩ (.int .u64 (F (i + 1)))) bl nT (upTo (i + 1 + 1) F)) := HNx.out.next
        have HKn : Hid (Full (wx.setCell ⟨bl, i + 1, none⟩ (.int .u64 (F (i + 1)))) bk nT K) := (HKx.out.old hR).other (p := ⟨bl, i + 1, none⟩) hne _
        have HG2 : Hid (Old W (wx.setCell ⟨bl, i + 1, none⟩ (.int .u64 (F (i + 1))))) := (HW.out.trans hR).setCell hs2 _
        have q0 := HNx.out.cell (i + 1) hlt
        have f0 := HNx.out.free (i + 1)
        clear hR hk HTc HLc HKc HGr HTr HDr
        go_wp2_with fail
        go_roundw
        case rel => exact ⟨i + 1, by simp, by omega, HG1, HKn, HG2⟩
        case measure => simp [intOf]; omega
      · obtain ⟨q, rfl⟩ : ∃ q, nT = q + 1 := ⟨nT - 1, by omega⟩
        have he : q = i := by omega
        subst he
        have HDn : Hid (Nums wr w.heap.size (.slice (some ⟨bl, 0, none⟩) (q + 1) (q + 1)) (q + 1) F) := HN.out.done.nums (Nat.le_trans HW0.out.size hs2) (by omega)
        go_wp2_with fail
        go_ret
        exact ⟨HW0.out.trans HW.out, _, rfl, HDn.out⟩

end Go.Proofs.YtlnmjbbpenhdbaaGreat

namespace Go.Proofs.YtlnmjbbpenhdbaaGreat
open Go.RowKit
set_option linter.unusedSimpArgs false
set_option linter.unusedVariables false

set_option maxRecDepth 100000 in
set_option maxHeartbeats 4000000 in
theorem cgrow_any (n : Nat) (w : World) (h0 : 0 < n) (hn : n ≤ 1000) :
    Calls Tryz.prog 112 #[.slice none 0 0, .int .i64 (n : Int)] w fun e w' => Old w w' ∧ ∃ v, e = .returned v ∧ Nums w' w.heap.size v 0 (fun _ => 0) := by
  obtain ⟨i0, hi0, hz0, hz1, hz2⟩ := info_parts u64info
  have hrz : ∀ ty, (Builtin.append_ #[29, 3] ty #[.slice none 0 0, .int .i64 (n : Int)]).run Tryz.prog w = .ok (.slice (some ⟨w.heap.size, 0, none⟩) n (grownCap w n 0 22)) (w.drew.alloc (.cells (#[] ++ Builtin.zeroCells #[.int .u64 0] n ++ Builtin.zeroCells #[.int .u64 0] (grownCap w n 0 22 - n)) 22)) := fun ty => by
    have h := Lib.run_append_grow_zeros (P := Tryz.prog) w 29 3 ty 22 i0 (.int .u64 0) .i64 .i64 Tryz.underlying29 Tryz.underlying3 hi0 hz0 none 0 0 [] (run_firstCells_none w.drew _ 0 0 0) n h0 (by rw [hz1]; omega) (by omega) (by omega) (by rw [hz2]; omega) (growslice_fits (by omega) (by rw [hz2]; omega))
    rw [Nat.zero_add] at h
    exact h
  have hGn : n ≤ grownCap w n 0 22 := by have := grownCap_ge w n 0 22; exact this
  have hGm := grownCap_le_maxLen w n 0 22 (by unfold maxLen; omega)
  obtain ⟨G, hG⟩ : ∃ G, G = grownCap w n 0 22 := ⟨_, rfl⟩
  rw [← hG] at hrz hGn hGm
  clear hG
  have hnum : Nums (w.drew.alloc (.cells (#[] ++ Builtin.zeroCells #[.int .u64 0] n ++ Builtin.zeroCells #[.int .u64 0] (G - n)) 22)) w.heap.size (.slice (some ⟨w.heap.size, 0, none⟩) 0 G) 0 (fun _ => 0) := World.ownsRow_made w.drew _ G (Nat.le_refl _) hGm (by simp [Builtin.zeroCells]; omega)
  have hold : Old w (w.drew.alloc (.cells (#[] ++ Builtin.zeroCells #[.int .u64 0] n ++ Builtin.zeroCells #[.int .u64 0] (G - n)) 22)) := (Old.refl w).drew.alloc _
  have hG63 : G ≤ 9223372036854775807 := by unfold maxLen at hGm; omega
  obtain ⟨W1, hW1⟩ : ∃ W1, W1 = w.drew.alloc (.cells (#[] ++ Builtin.zeroCells #[.int .u64 0] n ++ Builtin.zeroCells #[.int .u64 0] (G - n)) 22) := ⟨_, rfl⟩
  rw [← hW1] at hrz hold hnum
  have HN : Hid (Old w W1 ∧ Nums W1 w.heap.size (.slice (some ⟨w.heap.size, 0, none⟩) 0 G) 0 (fun _ => 0)) := ⟨hold, hnum⟩
  clear hold hnum hW1
  go_enter Tryz.func112, Tryz.ntmps112
  go_wp2_with (at_builtin; refine Lib.wpList_append_run _ rfl _ _ _ _ rfl _ _ rfl rfl _ _ (hrz _) ?_)
  go_ret
  exact ⟨HN.out.1, _, rfl, HN.out.2⟩

/-- Lists one behind the other: how long the first i are; their numbers. -/
def lenS (L : Nat → Nat) : Nat → Nat
  | 0 => 0
  | i + 1 => lenS L i + L i
def catF (L : Nat → Nat) (B : Nat → Nat → Int) : Nat → Nat → Int
  | 0 => fun _ => 0
  | i + 1 => fun k => if k < lenS L i then catF L B i k else B i (k - lenS L i)
theorem cat_low {L : Nat → Nat} {B : Nat → Nat → Int} {i k : Nat} (h : k < lenS L i) : catF L B (i + 1) k = catF L B i k := if_pos h
theorem lenS_le {L : Nat → Nat} {n : Nat} (h : ∀ j, j < n → L j ≤ 100) : ∀ i, i ≤ n → lenS L i ≤ 100 * i
  | 0, _ => Nat.le_refl _
  | i + 1, hi => by
    show lenS L i + L i ≤ _
    have := lenS_le h i (by omega)
    have := h i (by omega)
    omega
theorem nums_cat {w : World} {base k m : Nat} {v : Value} {F : Nat → Int} {G D : Nat → Int} (h : w.ownsRow base 22 1 v (k + m) ((List.range k).map (fun i => Value.int .u64 (F i)) ++ (List.range m).map (fun i => Value.int .u64 (D i)))) (h1 : ∀ i, i < k → G i = F i) (h2 : ∀ i, i < m → G (k + i) = D i) : Nums w base v (k + m) G := by
  unfold Nums
  have e : (List.range (k + m)).map (fun i => Value.int .u64 (G i)) = (List.range k).map (fun i => Value.int .u64 (F i)) ++ (List.range m).map (fun i => Value.int .u64 (D i)) := by
    rw [List.range_add, List.map_append, List.map_map]
    congr 1
    · exact List.map_congr_left fun i hi => by rw [h1 i (List.mem_range.1 hi)]
    · exact List.map_congr_left fun i hi => by show Value.int .u64 (G (k + i)) = _; rw [h2 i (List.mem_range.1 hi)]
  rw [e]
  exact h

set_option maxRecDepth 100000 in
set_option maxHeartbeats 4000000 in
theorem concat_any (bb : Option Addr) (nb cb : Nat) (BA : Nat → Option Addr) (L C : Nat → Nat) (B : Nat → Nat → Int) (w : World) (hnb : nb ≤ 9) (hL : ∀ j, j < nb → L j ≤ 100) (hpos : 0 < lenS L nb) (hA : ∀ j, j < nb → ∃ b o, BA j = some ⟨b, o, none⟩) (hB : ListsIn w bb nb BA L C B) :
    Calls Tryz.prog 73 #[.slice bb nb cb] w (GivL w (lenS L nb) (catF L B nb)) := by
  have HB : Hid (ListsIn w bb nb BA L C B) := hB
  have HL : Hid (∀ j, j < nb → L j ≤ 100) := hL
  have HP : Hid (0 < lenS L nb) := hpos
  have HA : Hid (∀ j, j < nb → ∃ b o, BA j = some ⟨b, o, none⟩) := hA
  obtain ⟨i0, hi0, hz0, hz1, hz2⟩ := info_parts u64info
  clear hB hL hpos hA
  go_enter Tryz.func73, Tryz.ntmps73
  go_upto_region 3 with fail
  go_loopw [3, 11] (fun sv iv wx => ∃ i : Nat, iv = .int .i64 (i : Int) ∧ i ≤ nb ∧ sv = .int .i64 (lenS L i : Nat) ∧ Hid (Old w wx)) (fun _ iv _ => nb - (intOf iv).toNat)
  case atStart => exact ⟨0, rfl, Nat.zero_le _, rfl, Old.refl _⟩
  case round =>
    obtain ⟨i, rfl, hi, rfl, HO⟩ := hrel
    by_cases hlt : i < nb
    · rcases HB.out with h0 | ⟨bx, ox, hqx, _, hrx⟩
      · omega
      have cx := HO.out.cellOf (hrx i hlt).1
      have l1 := HL.out i hlt
      have l2 := lenS_le HL.out i hi
      have HE : Hid (lenS L (i + 1) = lenS L i + L i) := rfl
      clear hrx
      subst hqx
      generalize L i = Li at *
      generalize hs : lenS L i = Si at *
      have HS : Hid (lenS L (i + 1) = Si + Li) := HE.out
      clear hs HE
      have k1 : IntKind.i64.wrap ((Si : Int) + (Li : Int)) = ((Si + Li : Nat) : Int) := by rw [IntKind.wrap_i64]; omega
      have k2 : ¬ ((Si + Li : Nat) : Int) < 0 := by omega
      have k3 : wrap64 ((Si : Int) + (Li : Int)) = ((Si + Li : Nat) : Int) := by unfold wrap64; omega
      go_wp2_with fail
      go_roundw
      case rel => exact ⟨i + 1, idx_next i, by omega, by rw [HS.out]; first | rfl | simp, HO⟩
      case measure => simp [intOf]; omega
    · have he : nb = i := by omega
      subst he
      have l2 := lenS_le HL.out nb (Nat.le_refl _)
      have HG : Hid (∀ wx, Calls Tryz.prog 112 #[.slice none 0 0, .int .i64 (lenS L nb : Nat)] wx fun e w' => Old wx w' ∧ ∃ v, e = .returned v ∧ Nums w' wx.heap.size v 0 (fun _ => 0)) := fun wx => cgrow_any (lenS L nb) wx HP.out (by omega)
      go_upto_region 10 with (go_at_call 112; refine (HG.out _).mono ?_; rintro e w1 ⟨o1, v, rfl, hN⟩; have HN1 : Hid (Nums w1 w.heap.size v 0 (catF L B 0)) := hN.mono HO.out.size; have HO1 : Hid (Old w w1) := HO.out.trans o1; clear hN o1)
      go_upto_region 11 with fail
      go_loopw [6, 27] (fun v iv wx => ∃ i : Nat, iv = .int .i64 (i : Int) ∧ i ≤ nb ∧ Hid (Nums wx w.heap.size v (lenS L i) (catF L B i)) ∧ Hid (Old w wx)) (fun _ iv _ => nb - (intOf iv).toNat)
      case atStart => exact ⟨0, rfl, Nat.zero_le _, HN1, HO1⟩
      case round =>
        obtain ⟨i, rfl, hi, HN, HO2⟩ := hrel
        by_cases hlt : i < nb
        · rcases HB.out with h0 | ⟨bx, ox, hqx, _, hrx⟩
          · omega
          have cx := HO2.out.cellOf (hrx i hlt).1
          have HFi : Hid (FacsIn wr (BA i) (L i) (B i)) := (hrx i hlt).2.2.2.old HO2.out
          have l1 := HL.out i hlt
          have l2 := lenS_le HL.out i hi
          clear hrx
          subst hqx
          obtain ⟨ba, oa, hba⟩ := HA.out i hlt
          rw [hba] at cx HFi
          have hnews : ∀ j u, ((List.range (L i)).map (fun k => Value.int .u64 (B i k)))[j]? = some u → wr.cell? ((⟨ba, oa, none⟩ : Addr).add j) = some u := fun j u hj => by
            have hadd : (⟨ba, oa, none⟩ : Addr).add j = ⟨ba, oa + j, none⟩ := by unfold Addr.add; split <;> simp_all
            rw [hadd]
            rw [List.getElem?_map] at hj
            by_cases hjl : j < L i
            · rw [List.getElem?_range hjl] at hj
              rcases HFi.out with h0 | ⟨b2, o2, e2, _, h2⟩
              · omega
              · cases e2
                simp only [Option.map_some, Option.some.injEq] at hj
                rw [(h2 j hjl).1, hj]
            · rw [List.getElem?_eq_none (by simpa using hjl)] at hj
              cases hj
          have HNe : Hid (lenS L (i + 1) = lenS L i + L i) := rfl
          have HCe : Hid (∀ k, k < lenS L i → catF L B (i + 1) k = catF L B i k) := fun k hk => cat_low hk
          have HCf : Hid (∀ k, k < L i → catF L B (i + 1) (lenS L i + k) = B i k) := fun k hk => by
            show (if lenS L i + k < lenS L i then _ else B i (lenS L i + k - lenS L i)) = _
            rw [if_neg (by omega), Nat.add_sub_cancel_left]
          have HNw : Hid (∀ j u, ((List.range (L i)).map (fun k => Value.int .u64 (B i k)))[j]? = some u → wr.cell? ((⟨ba, oa, none⟩ : Addr).add j) = some u) := hnews
          clear hnews hba HFi
          generalize hG1 : catF L B (i + 1) = G1 at *
          have HG1 : Hid (catF L B (i + 1) = G1) := hG1
          clear hG1
          generalize catF L B i = G0 at *
          generalize hS1 : lenS L (i + 1) = S1 at *
          generalize lenS L i = S0 at *
          generalize L i = Li at *
          have HN1 : Hid (lenS L (i + 1) = S1) := hS1
          clear hS1
          go_wp2_with (at_builtin; refine wpList_append_own _ rfl _ _ 29 rfl w.heap.size 22 i0 (.int .u64 0) 1 8 Tryz.underlying29 hi0 hz0 hz1 hz2 rfl (by decide) _ _ _ rfl HN.out ⟨ba, oa, none⟩ Li _ ((List.range Li).map (fun k => Value.int .u64 (B i k))) rfl ?c1 HNw.out ?c2 ?c3 ?c4 ?c5 ?_)
          case c1 => simp
          case c2 => intro u hu; simp at hu; obtain ⟨_, _, rfl⟩ := hu; rfl
          case c3 => unfold maxLen; omega
          case c4 => omega
          case c5 => exact HO2.out.size
          intro v' w1 hown' hgrow hne
          have HN3 : Hid (Nums w1 w.heap.size v' S1 G1) := by
            have := nums_cat hown' HCe.out HCf.out
            unfold Hid
            rw [HNe.out]
            exact this
          have HO3 : Hid (Old w w1) := by
            refine HO2.out.grown hgrow fun k hk => (World.ownsRow.lt HN.out k hk).1
          clear hown' hgrow hne
          go_wp2_with fail
          go_roundw
          case rel => exact ⟨i + 1, idx_next i, by omega, by rw [HN1.out, HG1.out]; exact HN3, HO3⟩
          case measure => simp [intOf]; omega
        · have he : nb = i := by omega
          subst he
          go_wp2_with fail
          go_ret
          exact ⟨HO2.out, _, rfl, HN.out⟩

end Go.Proofs.YtlnmjbbpenhdbaaGreat
