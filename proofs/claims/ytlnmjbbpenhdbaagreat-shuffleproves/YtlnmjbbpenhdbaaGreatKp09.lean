/-
  What the proof needs, part 9.
-/
import Derived.Test.YtlnmjbbpenhdbaaGreatKp08
namespace Go.Proofs.YtlnmjbbpenhdbaaGreat
open Tryz
set_option linter.unusedSimpArgs false
set_option linter.unusedVariables false
set_option maxRecDepth 100000
set_option maxHeartbeats 32000000
section
open Go.RowKit
def mixC (P Q G y : Int) (C : NN) (O : NI) (R : NN) : Nat -> Nat -> Int := fun i k => if k % 2 = 0 then mulI (C (O i).toNat k) (expI P Q G (R i (k / 2))) P else mulI (C (O i).toNat k) (expI P Q y (R i (k / 2))) P
theorem zdO (P Q G y : Int) (C : NN) (O : NI) (R : NN) (i k : Nat) : U64 (mixC P Q G y C O R i k) := by
 unfold mixC
 split <;> exact zaI _ _ _
def mixB (P Q y : Int) (m : Nat) (C : NN) (no : Nat) (O : NI) (nρ : Nat) : Bool := decide (no = m) && (decide (nρ = m) && (ordB no O && (batB P Q m C && inI P Q y)))
def BoxF (w : World) (a : OA) (n : Nat) (C : NN) : Prop :=
 n = 0 ∨ ∃ b cs, a = some ⟨b, 0, none⟩ /\ w.heap[b]? = some (.cells cs 74 (0, 0)) /\ ∀ j, j < n -> ∀ k, k < 6 -> cs[j * 6 + k]? = some (.int .u64 (C j k)) /\ U64 (C j k)
theorem BoxF.boxs {w : World} {a : OA} {n : Nat} {C : NN} (h : BoxF w a n C) : BoxsIn w a n C := by
 rcases h with h | ⟨b, cs, rfl, hb, hr⟩
 ·exact Or.inl h
 ·exact Or.inr ⟨b, 0, rfl, (Array.getElem?_eq_some_iff.1 hb).1, fun j hj k hk => ⟨by rw [Nat.zero_add, cell_of_row _ _ (j * 6 + k) _ _ (0, 0) hb]; exact (hr j hj k hk).1, (hr j hj k hk).2⟩⟩
theorem BoxF.old {w w' : World} {a : OA} {n : Nat} {C : NN} (h : BoxF w a n C) (ho : Old w w') : BoxF w' a n C := by
 rcases h with h | ⟨b, cs, rfl, hb, hr⟩
 ·exact Or.inl h
 ·exact Or.inr ⟨b, cs, rfl, (ho.block _ (Array.getElem?_eq_some_iff.1 hb).1).trans hb, hr⟩
def GivB (w : World) (ok : Bool) (m : Nat) (C : NN) (r : Ending) (w' : World) : Prop := Old w w' /\ ∃ a, r = .returned (.tuple #[.slice a (if ok then m else 0) (if ok then m else 0), .bool ok]) /\ BoxF w' a (if ok then m else 0) C
theorem zeC {w w' : World} {ok : Bool} {m : Nat} {C : NN} (hok : ok = false) (ho : Old w w') : GivB w ok m C (.returned (.tuple #[.slice none 0 0, .bool false])) w' := by
 subst hok
 exact ⟨ho, none, rfl, Or.inl rfl⟩
def bxV (p : Nat) (C : NN) : Nat -> Value := fun q => .int .u64 (upTo p (flatF C) q)
theorem boxinfo : (prog.info? 74).map (fun i => (i.zero, i.size, i.bytes)) = some (some (.agg #[.int .u64 0, .int .u64 0, .int .u64 0, .int .u64 0, .int .u64 0, .int .u64 0]), 6, 48) := by kernel_rfl
theorem makeb_run (m : Nat) (h : m <= 80) (w : World) : (Instr.makeSlice 26 (.int .i64 (m : Int)) (.int .i64 (m : Int))).run prog w = .ok (.slice (some ⟨w.heap.size, 0, none⟩) m m) (w.alloc (.cells (madeCells #[Value.int .u64 0, Value.int .u64 0, Value.int .u64 0, Value.int .u64 0, Value.int .u64 0, Value.int .u64 0] (m * 6)) 74)) := by
 obtain ⟨i, hi, hzz⟩ := Option.map_eq_some_iff.1 boxinfo
 simp only [Prod.mk.injEq] at hzz
 obtain ⟨hz, hs, hb⟩ := hzz
 have hr := run_make (P := prog) w 26 74 i _ underlying26 hi hz .i64 .i64 (m : Int) (m : Int) (by omega) (Int.le_refl _) (by rw [hb]; omega) (by omega)
 rw [Int.toNat_natCast, hs] at hr
 exact hr
theorem fulV_boxs {w : World} {b m : Nat} {C : NN} (h : FulV w b (m * 6) 74 (bxV (m * 6) C)) (hC : ∀ i k, U64 (C i k)) : BoxF w (some ⟨b, 0, none⟩) m C := Or.inr ⟨b, _, rfl, h, fun j hj k hk => ⟨by
 rw [List.getElem?_toArray, List.getElem?_map, List.getElem?_range (by omega)]
 show some (bxV (m * 6) C (j * 6 + k)) = _
 unfold bxV upTo
 rw [if_pos (by omega), show j * 6 + k = 6 * j + k by omega, zbQ C j k hk], hC _ _⟩⟩
theorem bxV_next {w : World} {b m p : Nat} {C : NN} {x z : Int} (h : FulV w b (m * 6) 74 (bxV p C)) (hx : flatF C p = x) (hz : flatF C (p + 1) = z) : FulV ((w.setCell ⟨b, p, none⟩ (.int .u64 x)).setCell ⟨b, p + 1, none⟩ (.int .u64 z)) b (m * 6) 74 (bxV (p + 2) C) :=
 ((h.set p (.int .u64 x)).set (p + 1) (.int .u64 z)).congr fun k hk => by
  unfold bxV upTo
  by_cases h1 : k = p + 1
  ·rw [if_pos h1, if_pos (by omega), h1, hz]
  ·rw [if_neg h1]
   by_cases h2 : k = p
   ·rw [if_pos h2, if_pos (by omega), h2, hx]
   ·rw [if_neg h2]
    by_cases h3 : k < p
    ·rw [if_pos h3, if_pos (by omega)]
    ·rw [if_neg h3, if_neg (by omega)]
theorem smix_any (P Q G H : Int) (a : OA) (n cap : Nat) (y : Int) (bi : OA) (m ci : Nat) (C : NN) (bo : OA) (no co : Nat) (O : NI) (bρ : OA) (nρ cρ : Nat) (R : NN) (w : World) (h4 : Four P Q G H) (hr : Righ P Q G) (hy : U64 y) (mm : m <= 80) (mo : no <= 80) (mρ : nρ <= 80) (hC : BoxsIn w bi m C) (hO : IntsIn w bo no O) (hR : RhoIn w bρ nρ R) :
  Calls prog 15 #[gv P Q G H a n cap, .int .u64 y, .slice bi m ci, .slice bo no co, .slice bρ nρ cρ] w (GivB w (mixB P Q y m C no O nρ) m (mixC P Q G y C O R)) := by
 have HX : Hid (IntsIn w bo no O) := hO
 have HCx : Hid (BoxsIn w bi m C) := hC
 have HRx : Hid (RhoIn w bρ nρ R) := hR
 have HZ := lain1 w (gc P Q G H a n cap) 25
 have HG0 := fun w' ho => (HZ.then (W' := w') ho).row 0 (by simp)
 have HW0 : Hid (Old w (w.alloc (.cells (gc P Q G H a n cap) 25))) := HZ.old
 have HOr : Hid (∀ wx, Old w wx -> Calls prog 50 #[.slice bo no co] wx (Ret wx (.bool (ordB no O)))) := fun wx ho => zbW bo no co O wx (by omega) (hO.old ho)
 have HBa : Hid (∀ wx, Old w wx -> Calls prog 51 #[gv P Q G H a n cap, .slice bi m ci] wx (Ret wx (.bool (batB P Q m C)))) := fun wx ho => zdF P Q G H a n cap bi m ci C wx h4 (by omega) (hC.old ho)
 have HIn : Hid (∀ wx, Calls prog 52 #[gv P Q G H a n cap, .int .u64 y] wx (Ret wx (.bool (inI P Q y)))) := fun wx => gin0 P Q G H y a n cap wx h4.q0 h4.q1 hy.2
 have hcases : no ≠ m ∨ (no = m /\ nρ ≠ m) ∨ (no = m /\ nρ = m /\ ordB no O = false) ∨ (no = m /\ nρ = m /\ ordB no O = true /\ batB P Q m C = false) ∨ (no = m /\ nρ = m /\ ordB no O = true /\ batB P Q m C = true /\ inI P Q y = false) ∨ (no = m /\ nρ = m /\ ordB no O = true /\ batB P Q m C = true /\ inI P Q y = true) := by
  by_cases h1 : no = m
  ·by_cases h2 : nρ = m
   ·cases h3 : ordB no O
    ·exact Or.inr (Or.inr (Or.inl ⟨h1, h2, rfl⟩))
    ·cases h5 : batB P Q m C
     ·exact Or.inr (Or.inr (Or.inr (Or.inl ⟨h1, h2, rfl, rfl⟩)))
     ·cases h6 : inI P Q y
      ·exact Or.inr (Or.inr (Or.inr (Or.inr (Or.inl ⟨h1, h2, rfl, rfl, rfl⟩))))
      ·exact Or.inr (Or.inr (Or.inr (Or.inr (Or.inr ⟨h1, h2, rfl, rfl, rfl⟩))))
   ·exact Or.inr (Or.inl ⟨h1, h2⟩)
  ·exact Or.inl h1
 rcases hcases with h1 | ⟨h1, h2⟩ | ⟨h1, h2, h3⟩ | ⟨h1, h2, h3, h5⟩ | ⟨h1, h2, h3, h5, h6⟩ | ⟨h1, h2, h3, h5, h6⟩
 ·have k1 : ((no : Int) != (m : Int)) = true := by simp; omega
  have k2 : ¬ (no : Int) = (m : Int) := by omega
  have HN : Hid (mixB P Q y m C no O nρ = false) := by unfold Hid mixB; simp [h1]
  clear hC hO hR h4 hr
  go_enter func15, ntmps15
  go_upto_region 1 with fail
  generalize w.alloc (.cells (gc P Q G H a n cap) 25) = W at *
  have HG : Hid (∀ wx, Old W wx -> wx.heap[w.heap.size]? = some (.cells (gc P Q G H a n cap) 25 (0, 0))) := HG0
  go_wp2_with (first
   | (go_at_call 50; refine (HOr.out _ HW0.out).mono ?_; rintro e w1 ⟨rfl, o1⟩; have g1 := HG.out _ o1; have d0 := cell_of_row _ _ 0 _ _ (0, 0) g1; have d1 := cell_of_row _ _ 1 _ _ (0, 0) g1; have d2 := cell_of_row _ _ 2 _ _ (0, 0) g1; have d3 := cell_of_row _ _ 3 _ _ (0, 0) g1; have d4 := cell_of_row _ _ 4 _ _ (0, 0) g1; clear g1)
   | (go_at_call 51; refine (HBa.out _ (HW0.out.trans o1)).mono ?_; rintro e w2 ⟨rfl, o2⟩; have g2 := HG.out _ (o1.trans o2); have d5 := cell_of_row _ _ 0 _ _ (0, 0) g2; have d6 := cell_of_row _ _ 1 _ _ (0, 0) g2; have d7 := cell_of_row _ _ 2 _ _ (0, 0) g2; have d8 := cell_of_row _ _ 3 _ _ (0, 0) g2; have d9 := cell_of_row _ _ 4 _ _ (0, 0) g2; clear g2)
   | (go_at_call 52; refine (HIn.out _).mono ?_; rintro e w3 ⟨rfl, o3⟩))
  go_ret2
  exact zeC HN.out HW0.out
 ·have k0 : ((no : Int) != (m : Int)) = false := by simp; omega
  have k1 : ((nρ : Int) != (m : Int)) = true := by simp; omega
  have k2 : ¬ (nρ : Int) = (m : Int) := by omega
  have HN : Hid (mixB P Q y m C no O nρ = false) := by unfold Hid mixB; simp [h2]
  clear hC hO hR h4 hr
  go_enter func15, ntmps15
  go_upto_region 1 with fail
  generalize w.alloc (.cells (gc P Q G H a n cap) 25) = W at *
  have HG : Hid (∀ wx, Old W wx -> wx.heap[w.heap.size]? = some (.cells (gc P Q G H a n cap) 25 (0, 0))) := HG0
  go_wp2_with (first
   | (go_at_call 50; refine (HOr.out _ HW0.out).mono ?_; rintro e w1 ⟨rfl, o1⟩; have g1 := HG.out _ o1; have d0 := cell_of_row _ _ 0 _ _ (0, 0) g1; have d1 := cell_of_row _ _ 1 _ _ (0, 0) g1; have d2 := cell_of_row _ _ 2 _ _ (0, 0) g1; have d3 := cell_of_row _ _ 3 _ _ (0, 0) g1; have d4 := cell_of_row _ _ 4 _ _ (0, 0) g1; clear g1)
   | (go_at_call 51; refine (HBa.out _ (HW0.out.trans o1)).mono ?_; rintro e w2 ⟨rfl, o2⟩; have g2 := HG.out _ (o1.trans o2); have d5 := cell_of_row _ _ 0 _ _ (0, 0) g2; have d6 := cell_of_row _ _ 1 _ _ (0, 0) g2; have d7 := cell_of_row _ _ 2 _ _ (0, 0) g2; have d8 := cell_of_row _ _ 3 _ _ (0, 0) g2; have d9 := cell_of_row _ _ 4 _ _ (0, 0) g2; clear g2)
   | (go_at_call 52; refine (HIn.out _).mono ?_; rintro e w3 ⟨rfl, o3⟩))
  go_ret2
  exact zeC HN.out HW0.out
 ·subst h2
  subst h1
  rw [h3] at HOr
  have HN : Hid (mixB P Q y no C no O no = false) := by unfold Hid mixB; simp [h3]
  clear hC hO hR h4 hr h3
  go_enter func15, ntmps15
  go_upto_region 1 with fail
  generalize w.alloc (.cells (gc P Q G H a n cap) 25) = W at *
  have HG : Hid (∀ wx, Old W wx -> wx.heap[w.heap.size]? = some (.cells (gc P Q G H a n cap) 25 (0, 0))) := HG0
  go_wp2_with (first
   | (go_at_call 50; refine (HOr.out _ HW0.out).mono ?_; rintro e w1 ⟨rfl, o1⟩; have g1 := HG.out _ o1; have d0 := cell_of_row _ _ 0 _ _ (0, 0) g1; have d1 := cell_of_row _ _ 1 _ _ (0, 0) g1; have d2 := cell_of_row _ _ 2 _ _ (0, 0) g1; have d3 := cell_of_row _ _ 3 _ _ (0, 0) g1; have d4 := cell_of_row _ _ 4 _ _ (0, 0) g1; clear g1)
   | (go_at_call 51; refine (HBa.out _ (HW0.out.trans o1)).mono ?_; rintro e w2 ⟨rfl, o2⟩; have g2 := HG.out _ (o1.trans o2); have d5 := cell_of_row _ _ 0 _ _ (0, 0) g2; have d6 := cell_of_row _ _ 1 _ _ (0, 0) g2; have d7 := cell_of_row _ _ 2 _ _ (0, 0) g2; have d8 := cell_of_row _ _ 3 _ _ (0, 0) g2; have d9 := cell_of_row _ _ 4 _ _ (0, 0) g2; clear g2)
   | (go_at_call 52; refine (HIn.out _).mono ?_; rintro e w3 ⟨rfl, o3⟩))
  go_ret2
  exact zeC HN.out (HW0.out.trans o1)
 ·subst h2
  subst h1
  rw [h3] at HOr
  rw [h5] at HBa
  have HN : Hid (mixB P Q y no C no O no = false) := by unfold Hid mixB; simp [h5]
  clear hC hO hR h4 hr h3 h5
  go_enter func15, ntmps15
  go_upto_region 1 with fail
  generalize w.alloc (.cells (gc P Q G H a n cap) 25) = W at *
  have HG : Hid (∀ wx, Old W wx -> wx.heap[w.heap.size]? = some (.cells (gc P Q G H a n cap) 25 (0, 0))) := HG0
  go_wp2_with (first
   | (go_at_call 50; refine (HOr.out _ HW0.out).mono ?_; rintro e w1 ⟨rfl, o1⟩; have g1 := HG.out _ o1; have d0 := cell_of_row _ _ 0 _ _ (0, 0) g1; have d1 := cell_of_row _ _ 1 _ _ (0, 0) g1; have d2 := cell_of_row _ _ 2 _ _ (0, 0) g1; have d3 := cell_of_row _ _ 3 _ _ (0, 0) g1; have d4 := cell_of_row _ _ 4 _ _ (0, 0) g1; clear g1)
   | (go_at_call 51; refine (HBa.out _ (HW0.out.trans o1)).mono ?_; rintro e w2 ⟨rfl, o2⟩; have g2 := HG.out _ (o1.trans o2); have d5 := cell_of_row _ _ 0 _ _ (0, 0) g2; have d6 := cell_of_row _ _ 1 _ _ (0, 0) g2; have d7 := cell_of_row _ _ 2 _ _ (0, 0) g2; have d8 := cell_of_row _ _ 3 _ _ (0, 0) g2; have d9 := cell_of_row _ _ 4 _ _ (0, 0) g2; clear g2)
   | (go_at_call 52; refine (HIn.out _).mono ?_; rintro e w3 ⟨rfl, o3⟩))
  go_ret2
  exact zeC HN.out ((HW0.out.trans o1).trans o2)
 ·subst h2
  subst h1
  rw [h3] at HOr
  rw [h5] at HBa
  rw [h6] at HIn
  have HN : Hid (mixB P Q y no C no O no = false) := by unfold Hid mixB; simp [h6]
  clear hC hO hR h4 hr h3 h5 h6
  go_enter func15, ntmps15
  go_upto_region 1 with fail
  generalize w.alloc (.cells (gc P Q G H a n cap) 25) = W at *
  have HG : Hid (∀ wx, Old W wx -> wx.heap[w.heap.size]? = some (.cells (gc P Q G H a n cap) 25 (0, 0))) := HG0
  go_wp2_with (first
   | (go_at_call 50; refine (HOr.out _ HW0.out).mono ?_; rintro e w1 ⟨rfl, o1⟩; have g1 := HG.out _ o1; have d0 := cell_of_row _ _ 0 _ _ (0, 0) g1; have d1 := cell_of_row _ _ 1 _ _ (0, 0) g1; have d2 := cell_of_row _ _ 2 _ _ (0, 0) g1; have d3 := cell_of_row _ _ 3 _ _ (0, 0) g1; have d4 := cell_of_row _ _ 4 _ _ (0, 0) g1; clear g1)
   | (go_at_call 51; refine (HBa.out _ (HW0.out.trans o1)).mono ?_; rintro e w2 ⟨rfl, o2⟩; have g2 := HG.out _ (o1.trans o2); have d5 := cell_of_row _ _ 0 _ _ (0, 0) g2; have d6 := cell_of_row _ _ 1 _ _ (0, 0) g2; have d7 := cell_of_row _ _ 2 _ _ (0, 0) g2; have d8 := cell_of_row _ _ 3 _ _ (0, 0) g2; have d9 := cell_of_row _ _ 4 _ _ (0, 0) g2; clear g2)
   | (go_at_call 52; refine (HIn.out _).mono ?_; rintro e w3 ⟨rfl, o3⟩))
  go_ret2
  exact zeC HN.out (((HW0.out.trans o1).trans o2).trans o3)
 ·subst h2
  subst h1
  rw [h3] at HOr
  rw [h5] at HBa
  rw [h6] at HIn
  have HOk : mixB P Q y no C no O no = true := by unfold mixB; simp [h3, h5, h6]
  rw [HOk]
  have HPo : Hid (OrdP no O) := zaA.1 h3
  have HBi : Hid (∀ j, j < no -> ∀ k, k < 6 -> inI P Q (C j k) = true) := (zaK.1 h5).2
  have H4 : Hid (Four P Q G H) := h4
  have HRi : Hid (Righ P Q G) := hr
  have HIy : Hid (inI P Q y = true) := h6
  obtain ⟨D, hD⟩ : ∃ D : Nat -> Nat -> Int, D = mixC P Q G y C O R := ⟨_, rfl⟩
  have HDe : Hid (D = mixC P Q G y C O R) := hD
  rw [<- hD]
  clear hD HOk hC hO hR h4 hr h3 h5 h6
  have hmk := makeb_run no mo
  have HF0 : ∀ wx : World, Hid (FulV (wx.alloc (.cells (madeCells #[Value.int .u64 0, Value.int .u64 0, Value.int .u64 0, Value.int .u64 0, Value.int .u64 0, Value.int .u64 0] (no * 6)) 74)) wx.heap.size (no * 6) 74 (bxV 0 D)) := fun wx => fulV_new6 wx (no * 6) _ (.int .u64 0) _ fun k _ => by simp [bxV, upTo]
  go_enter func15, ntmps15
  go_upto_region 1 with fail
  generalize w.alloc (.cells (gc P Q G H a n cap) 25) = W at *
  have HG : Hid (∀ wx, Old W wx -> wx.heap[w.heap.size]? = some (.cells (gc P Q G H a n cap) 25 (0, 0))) := HG0
  clear HG0
  go_upto_region 4 with (first
   | (go_at_call 50; refine (HOr.out _ HW0.out).mono ?_; rintro e w1 ⟨rfl, o1⟩; have g1 := HG.out _ o1; have d0 := cell_of_row _ _ 0 _ _ (0, 0) g1; have d1 := cell_of_row _ _ 1 _ _ (0, 0) g1; have d2 := cell_of_row _ _ 2 _ _ (0, 0) g1; have d3 := cell_of_row _ _ 3 _ _ (0, 0) g1; have d4 := cell_of_row _ _ 4 _ _ (0, 0) g1; clear g1)
   | (go_at_call 51; refine (HBa.out _ (HW0.out.trans o1)).mono ?_; rintro e w2 ⟨rfl, o2⟩; have g2 := HG.out _ (o1.trans o2); have d5 := cell_of_row _ _ 0 _ _ (0, 0) g2; have d6 := cell_of_row _ _ 1 _ _ (0, 0) g2; have d7 := cell_of_row _ _ 2 _ _ (0, 0) g2; have d8 := cell_of_row _ _ 3 _ _ (0, 0) g2; have d9 := cell_of_row _ _ 4 _ _ (0, 0) g2; clear g2)
   | (go_at_call 52; refine (HIn.out _).mono ?_; rintro e w3 ⟨rfl, o3⟩))
  have HW3 : Hid (Old W w3) := (o1.trans o2).trans o3
  clear o1 o2 o3 d0 d1 d2 d3 d4 d5 d6 d7 d8 d9
  go_upto_region 5 with fail
  have HF1 := HF0 w3
  have HW4 : Hid (Old W (w3.alloc (.cells (madeCells #[Value.int .u64 0, Value.int .u64 0, Value.int .u64 0, Value.int .u64 0, Value.int .u64 0, Value.int .u64 0] (no * 6)) 74))) := HW3.out.alloc _
  have hs3 := HW3.out.size
  generalize w3.alloc (.cells (madeCells #[Value.int .u64 0, Value.int .u64 0, Value.int .u64 0, Value.int .u64 0, Value.int .u64 0, Value.int .u64 0] (no * 6)) 74) = W4 at *
  generalize w3.heap.size = bl at *
  clear HF0 hmk
  go_upto_region 6 with fail
  go_loopw [51] (fun iv wx => ∃ i : Nat, iv = .int .i64 (i : Int) /\ i <= no /\ Hid (FulV wx bl (no * 6) 74 (bxV (i * 6) D)) /\ Hid (Old W wx)) (fun iv _ => no - (intOf iv).toNat)
  case atStart => exact ⟨0, rfl, Nat.zero_le _, by rw [Nat.zero_mul]; exact HF1, HW4⟩
  case round =>
   obtain ⟨i, rfl, hi, HN, HO⟩ := hrel
   by_cases hlt : i < no
   ·rcases HX.out with h0 | ⟨bx, ox, hqx, _, hrx⟩
    ·omega
    have cx := (HW0.out.trans HO.out).cellOf (hrx i hlt).1
    have hp := HPo.out.2.1 i hlt
    obtain ⟨p, hpe⟩ : ∃ p : Nat, O i = (p : Int) := ⟨(O i).toNat, by omega⟩
    have HPe : Hid ((O i).toNat = p) := by unfold Hid; omega
    rw [hpe] at cx hp
    have hpn : p < no := by omega
    clear hpe hp hrx
    subst hqx
    rcases HCx.out with h0 | ⟨bc, oc, hqc, _, hrc⟩
    ·omega
    have hcc : ∀ k, k < 6 -> wr.cell? ⟨bc, oc + p * 6 + k, none⟩ = some (.int .u64 (C p k)) /\ U64 (C p k) := fun k hk => ⟨(HW0.out.trans HO.out).cellOf (hrc p hpn k hk).1, (hrc p hpn k hk).2⟩
    have c0 : wr.cell? ⟨bc, oc + p * 6, none⟩ = some (.int .u64 (C p 0)) := (hcc 0 (by omega)).1
    have c1 := (hcc 1 (by omega)).1
    have c2 := (hcc 2 (by omega)).1
    have c3 := (hcc 3 (by omega)).1
    have c4 := (hcc 4 (by omega)).1
    have c5 := (hcc 5 (by omega)).1
    have HCu : Hid (∀ k, k < 6 -> U64 (C p k)) := fun k hk => (hcc k hk).2
    have HCb : Hid (FulV wr bl (no * 6) 74 (bxV (i * 6) D)) := HN
    clear hrc hcc
    subst hqc
    go_upto_region 9 with fail
    clear c0 c1 c2 c3 c4 c5 cx
    go_loopw [60] (fun iv wx => ∃ k : Nat, iv = .int .i64 (k : Int) /\ k <= 3 /\ Hid (FulV wx bl (no * 6) 74 (bxV (i * 6 + k * 2) D)) /\ Hid (Old W wx)) (fun iv _ => 3 - (intOf iv).toNat)
    case atStart => exact ⟨0, rfl, Nat.zero_le _, by rw [Nat.zero_mul]; exact HCb, HO⟩
    case round =>
     obtain ⟨k, rfl, hk, HN2, HO2⟩ := hrel
     by_cases hkl : k < 3
     ·have k1 : (k : Int) < 3 := by omega
      have hbx := box_at (C p 0) (C p 1) (C p 2) (C p 3) (C p 4) (C p 5) k hkl
      have hU : tri7 (C p 0) (C p 2) (C p 4) k = C p (2 * k) /\ tri7 (C p 1) (C p 3) (C p 5) k = C p (2 * k + 1) := by
       match k, hkl with
       | 0, _ => exact ⟨rfl, rfl⟩
       | 1, _ => exact ⟨rfl, rfl⟩
       | 2, _ => exact ⟨rfl, rfl⟩
      rw [hU.1, hU.2] at hbx
      have HUu : Hid (U64 (C p (2 * k))) := HCu.out _ (by omega)
      have HVu : Hid (U64 (C p (2 * k + 1))) := HCu.out _ (by omega)
      have HDu : Hid (D i (2 * k) = mulI (C p (2 * k)) (expI P Q G (R i k)) P) := by
       unfold Hid; rw [HDe.out]; unfold mixC; rw [if_pos (by omega), HPe.out, show 2 * k / 2 = k by omega]
      have HDv : Hid (D i (2 * k + 1) = mulI (C p (2 * k + 1)) (expI P Q y (R i k)) P) := by
       unfold Hid; rw [HDe.out]; unfold mixC; rw [if_neg (by omega), HPe.out, show (2 * k + 1) / 2 = k by omega]
      rcases HRx.out with h0 | ⟨by_, oy, hqy, _, hry⟩
      ·omega
      have HRu : Hid (U64 (R i k)) := (hry i hlt k hkl).2
      have HRc0 : Hid (∀ wx, Old wr wx -> wx.cell? ⟨by_, oy + i * 3 + k, none⟩ = some (.int .u64 (R i k))) := fun wx hx => ((HW0.out.trans HO2.out).trans hx).cellOf (hry i hlt k hkl).1
      clear hry
      subst hqy
      clear hU
      generalize C p (2 * k) = xu at *
      generalize C p (2 * k + 1) = xv at *
      have HWp : Hid (Old wr (wr.alloc (.cells #[.int .u64 xu, .int .u64 xv] 69))) := (Old.refl _).alloc _
      have HPr0 : (wr.alloc (.cells #[.int .u64 xu, .int .u64 xv] 69)).heap[wr.heap.size]? = some (.cells #[.int .u64 xu, .int .u64 xv] 69 (0, 0)) := heap_alloc_last _ _
      go_upto_region 11 with fail
      generalize wr.heap.size = sp at *
      generalize wr.alloc (.cells #[.int .u64 xu, .int .u64 xv] 69) = Wp at *
      have HPr : Hid (∀ wx, Old Wp wx -> wx.heap[sp]? = some (.cells #[.int .u64 xu, .int .u64 xv] 69 (0, 0))) := fun wx hx => (hx.block _ (Array.getElem?_eq_some_iff.1 HPr0).1).trans HPr0
      have HRc : Hid (∀ wx, Old Wp wx -> wx.cell? ⟨by_, oy + i * 3 + k, none⟩ = some (.int .u64 (R i k))) := fun wx hx => HRc0.out _ (HWp.out.trans hx)
      have HGr : Hid (∀ wx, Old Wp wx -> wx.heap[w.heap.size]? = some (.cells (gc P Q G H a n cap) 25 (0, 0))) := fun wx hx => HG.out _ ((HO2.out.trans HWp.out).trans hx)
      clear HPr0 HRc0 hbx
      refine zaa 15 [.k (.slice (some ⟨bl, 0, none⟩) no no), .k (.int .i64 (i : Int)), .k (.int .i64 (k : Int)), .k (gv P Q G H a n cap), .k (.int .u64 y), .k (pv xu xv), .k (.slice (some ⟨by_, oy, none⟩) no cρ), .k (.int .i64 (i : Int)), .k (.int .i64 (k : Int)), .k (.pointer (some ⟨by_, oy + i * 3, none⟩)), .k (.pointer (some ⟨by_, oy + i * 3 + k, none⟩)), .k (.int .u64 (R i k)), .k (pv (D i (2 * k)) (D i (2 * k + 1))), .k (.pointer (some ⟨bl, i * 6, none⟩)), .k (.pointer (some ⟨bl, i * 6 + k * 2, none⟩))] (Old Wp) (by kernel_rfl) (by kernel_rfl) rfl ((Old.refl _).drew) ?st ?_
      case st =>
       refine .c stp <| .c stp <| .c stp <| .c (sts underlying25 HGr.out) <| .c stp <| .c (sts underlying69 HPr.out) <| .c stp <| .c stp <| .c stp <| .c (stj (n := no) (c := cρ) 3 hlt underlying28) <| .c (sai hkl underlying63) <| .c (stl underlying22 HRc.out) <| .c (stK old_R func53 (fun wx _ => by rw [HDu.out, HDv.out]; exact gagain_any P Q G H a n cap y xu xv (R i k) wx H4.out HRi.out hy HUu.out HVu.out HRu.out)) <| .c (stj0 (n := no) (c := no) 6 hlt underlying26) <| .c (saj 2 hkl underlying74) .n
      intro t wx hR hk
      simp only [fill, Ent.val, List.set_cons_zero, List.set_cons_succ, List.drop_succ_cons, List.drop_zero, List.drop_nil]
      have HNx := HN2.out.old (HWp.out.trans hR)
      have HG1 : Hid (FulV ((wx.setCell ⟨bl, i * 6 + k * 2, none⟩ (.int .u64 (D i (2 * k)))).setCell ⟨bl, i * 6 + k * 2 + 1, none⟩ (.int .u64 (D i (2 * k + 1)))) bl (no * 6) 74 (bxV (i * 6 + (k + 1) * 2) D)) := by
       have h := bxV_next HNx (x := D i (2 * k)) (z := D i (2 * k + 1)) (by rw [show i * 6 + k * 2 = 6 * i + 2 * k by omega, zbQ D i (2 * k) (by omega)]) (by rw [show i * 6 + k * 2 + 1 = 6 * i + (2 * k + 1) by omega, zbQ D i (2 * k + 1) (by omega)])
       rwa [show i * 6 + k * 2 + 2 = i * 6 + (k + 1) * 2 by omega] at h
      have HG2 : Hid (Old W ((wx.setCell ⟨bl, i * 6 + k * 2, none⟩ (.int .u64 (D i (2 * k)))).setCell ⟨bl, i * 6 + k * 2 + 1, none⟩ (.int .u64 (D i (2 * k + 1))))) := (((HO2.out.trans HWp.out).trans hR).setCell (p := ⟨bl, i * 6 + k * 2, none⟩) hs3 _).setCell (p := ⟨bl, i * 6 + k * 2 + 1, none⟩) hs3 _
      have q0 := HNx.cell (i * 6 + k * 2) (by omega)
      have q1 := HNx.cell (i * 6 + k * 2 + 1) (by omega)
      have f0 := HNx.free (i * 6 + k * 2)
      have f1 := HNx.free (i * 6 + k * 2 + 1)
      clear hR hk HNx HPr HRc HGr
      generalize D i (2 * k) = du at *
      generalize D i (2 * k + 1) = dv at *
      go_wp2_with fail
      go_roundw
      case rel => exact ⟨k + 1, zab k, by omega, HG1, HG2⟩
      case measure => simp [intOf]; omega
     ·have hk3 : k = 3 := by omega
      subst hk3
      have HN3 : Hid (FulV wr bl (no * 6) 74 (bxV ((i + 1) * 6) D)) := by have := HN2.out; rwa [show i * 6 + 3 * 2 = (i + 1) * 6 by omega] at this
      go_wp2_with fail
      go_roundw
      case rel => exact ⟨i + 1, zab i, by omega, HN3, HO2⟩
      case measure => simp [intOf]; omega
   ·have he : no = i := by omega
    subst he
    have HD' : Hid (BoxF wr (some ⟨bl, 0, none⟩) no D) := fulV_boxs HN.out (fun i k => by rw [HDe.out]; exact zdO _ _ _ _ _ _ _ i k)
    go_wp2_with fail
    go_ret2
    exact ⟨HW0.out.trans HO.out, _, rfl, HD'.out⟩
end
section
open Go.RowKit
structure Mixd (P Q G H X Y Z y : Int) (n : Nat) (o : Nat -> Nat) (R S T : NI) (Rho : NN) (A B Pp : NI) (Ui Vi Uo Vo : NN) : Prop where
 gr : Righ P Q G
 hin : inI P Q H = true
 yin : inI P Q y = true
 ord : Ord8 n o
 n1 : 0 < n
 y0 : 0 <= Y
 z0 : 0 <= Z
 r0 : ∀ i, i < n -> 0 <= R i
 s0 : ∀ i, i < n -> 0 <= S i
 t0 : ∀ i, i < n -> 0 <= T i
 w0 : ∀ i, i < n -> ∀ w, 0 <= Rho i w
 a : ∀ i, i < n -> A i = comI P Q G H ((o i : Int) + 1) (R i)
 b : ∀ i, i < n -> B i = comI P Q G H (bE Q X o i) (S i)
 p0 : Pp 0 = bigI P Q G (A 0) (B 0) Y Z
 p : ∀ i, i + 1 < n -> Pp (i + 1) = mulI (expI P Q (Pp i) (dE Q X Y Z o (i + 1))) (expI P Q H (T (i + 1))) P
 ui : ∀ j, j < n -> ∀ w, inI P Q (Ui j w) = true
 vi : ∀ j, j < n -> ∀ w, inI P Q (Vi j w) = true
 uo : ∀ i, i < n -> ∀ w, Uo i w = mulI (Ui (o i) w) (expI P Q G (Rho i w)) P
 vo : ∀ i, i < n -> ∀ w, Vo i w = mulI (Vi (o i) w) (expI P Q y (Rho i w)) P
section
variable {P Q G H X Y Z y : Int} {n : Nat} {o : Nat -> Nat} {R S T : NI} {Rho : NN} {A B Pp : NI} {Ui Vi Uo Vo : NN}
theorem mod_nn {a Q : Int} (hQ : 0 < Q) : 0 <= a % Q := Int.emod_nonneg _ (by omega)
theorem dE_sum {P G : Int} (h : Righ P Q G) (X Y Z : Int) (o : Nat -> Nat) (i : Nat) : (dE Q X Y Z o i + Z) % Q = (Y * ((o i : Int) + 1) + bE Q X o i) % Q := by
 unfold dE
 rw [sub_back h.okq, za4 h.okq, zak, zaw h.okq]
 exact zbF (zak _ _) rfl
theorem uE_mod {P G : Int} (h : Righ P Q G) (Y : Int) (R S : NI) (i : Nat) : uE Q Y R S i % Q = (Y * R i + S i) % Q := by
 unfold uE
 rw [za4 h.okq, zak, zaw h.okq]
 exact zbF (zak _ _) rfl
theorem Mixd.rowA (m : Mixd P Q G H X Y Z y n o R S T Rho A B Pp Ui Vi Uo Vo) {i : Nat} (hi : i < n) : imI P Q (row28 i G (n + i) H) (exF Q X Y Z n o R S T Rho) (7 * n + 3) = A i := by
 have h := m.gr
 have c := h.com m.hin (m := (o i : Int) + 1) (r := R i) (by omega) (m.r0 i hi)
 rw [m.a i hi]
 refine h.row28 (by have := m.n1; omega) (by omega) h.gin m.hin (fun k => zdJ h.q1' k) c.1 ?_
 rw [exF_a hi, exF_r hi, c.2]
 exact zan (h.pow_mod h.gin (mod_nn h.q1') (by omega) (zak _ _)) (h.pow_mod m.hin (mod_nn h.q1') (m.r0 i hi) (zak _ _))
theorem Mixd.rowB (m : Mixd P Q G H X Y Z y n o R S T Rho A B Pp Ui Vi Uo Vo) {i : Nat} (hi : i < n) : imI P Q (row28 (2 * n + i) G (3 * n + i) H) (exF Q X Y Z n o R S T Rho) (7 * n + 3) = B i := by
 have h := m.gr
 have c := h.com m.hin (m := bE Q X o i) (r := S i) (zdM _ _ _) (m.s0 i hi)
 rw [m.b i hi]
 refine h.row28 (by have := m.n1; omega) (by omega) h.gin m.hin (fun k => zdJ h.q1' k) c.1 ?_
 rw [exF_b hi, exF_s hi, c.2]
 exact zan rfl (h.pow_mod m.hin (mod_nn h.q1') (m.s0 i hi) (zak _ _))
theorem Mixd.big (m : Mixd P Q G H X Y Z y n o R S T Rho A B Pp Ui Vi Uo Vo) {i : Nat} (hi : i < n) : inI P Q (bigI P Q G (A i) (B i) Y Z) = true /\ bigI P Q G (A i) (B i) Y Z % P = G ^ (dE Q X Y Z o i).toNat * H ^ (uE Q Y R S i).toNat % P := by
 rw [m.a i hi, m.b i hi]
 exact m.gr.big m.hin (by omega) (m.r0 i hi) (zdM _ _ _) (m.s0 i hi) m.y0 m.z0 (zcV _ _ _) (zb8 _ _ _).1 (dE_sum m.gr X Y Z o i) (uE_mod m.gr Y R S i)
theorem Mixd.rowD (m : Mixd P Q G H X Y Z y n o R S T Rho A B Pp Ui Vi Uo Vo) {i : Nat} (hi : i < n) : imI P Q (row28 (4 * n + i) G (5 * n + i) H) (exF Q X Y Z n o R S T Rho) (7 * n + 3) = bigI P Q G (A i) (B i) Y Z := by
 have h := m.gr
 have c := m.big hi
 refine h.row28 (by have := m.n1; omega) (by omega) h.gin m.hin (fun k => zdJ h.q1' k) c.1 ?_
 rw [exF_d hi, exF_u hi, c.2]
theorem Mixd.pp (m : Mixd P Q G H X Y Z y n o R S T Rho A B Pp Ui Vi Uo Vo) : ∀ i, i < n -> inI P Q (Pp i) = true /\ Pp i % P = G ^ (pr (fun j => dE Q X Y Z o j) (i + 1)).toNat * H ^ (vE Q X Y Z o R S T i).toNat % P
 | 0, hi => by
  have c := m.big hi
  rw [m.p0]
  refine ⟨c.1, c.2.trans ?_⟩
  show _ = G ^ (1 * dE Q X Y Z o 0).toNat * H ^ (uE Q Y R S 0).toNat % P
  rw [Int.one_mul]
 | i + 1, hi => by
  have ih := Mixd.pp m i (by omega)
  rw [m.p i hi]
  have hd : 0 <= dE Q X Y Z o (i + 1) := zcV _ _ _
  exact m.gr.third m.hin ih.1 hd (m.t0 _ hi) (pr_nn (i + 1) fun j _ => zcV _ _ _) (vE_nn _ _ _ _ _ _ _ _ i) ih.2 (vE_nn _ _ _ _ _ _ _ _ (i + 1)) (by
   show addI (mulI (vE Q X Y Z o R S T i) (dE Q X Y Z o (i + 1)) Q) (T (i + 1)) Q % Q = _
   rw [za4 m.gr.okq, zak, zaw m.gr.okq]
   exact zbF (zak _ _) rfl)
theorem Mixd.rowP (m : Mixd P Q G H X Y Z y n o R S T Rho A B Pp Ui Vi Uo Vo) {i : Nat} (hi : i + 1 < n) : imI P Q (row28 (4 * n + (i + 1)) (Pp i) (6 * n + i) H) (exF Q X Y Z n o R S T Rho) (7 * n + 3) = Pp (i + 1) := by
 have h := m.gr
 have c0 := m.pp i (by omega)
 have c1 := m.pp (i + 1) hi
 refine h.row28 (by omega) (by omega) c0.1 m.hin (fun k => zdJ h.q1' k) c1.1 ?_
 have hd : 0 <= dE Q X Y Z o (i + 1) := zcV _ _ _
 rw [exF_d hi, exF_t hi, m.p i hi, zbd h.ok (h.exp_cong c0.1 hd) (h.exp_cong m.hin (m.t0 _ hi))]
 exact zan rfl (h.pow_mod m.hin (mod_nn h.q1') (m.t0 _ hi) (zak _ _))
theorem Mixd.rowL (m : Mixd P Q G H X Y Z y n o R S T Rho A B Pp Ui Vi Uo Vo) {B1 : NI} (hB : ∀ k, k < 7 * n + 3 -> k ≠ 7 * n - 1 -> B1 k = 1) (hH : B1 (7 * n - 1) = H) : imI P Q B1 (exF Q X Y Z n o R S T Rho) (7 * n + 3) = overI P (Pp (n - 1)) (expI P Q G (prodI Q (kF Q X Y Z) n)) := by
 have h := m.gr
 have hn := m.n1
 have c := m.pp (n - 1) (by omega)
 rw [show n - 1 + 1 = n by omega] at c
 have hpk := h.prod_order m.ord (kF Q X Y Z)
 have hl := h.last (k := prodI Q (kF Q X Y Z) n) c.1 (pr_nn n fun j _ => zcV _ _ _) (zaM _ _ _).1 c.2 hpk
 refine h.row1 (p := 7 * n - 1) (by omega) hB (by rw [hH]; exact m.hin) (fun k _ => zdJ h.q1' k) hl.1 ?_
 rw [hH, exF_v hn]
 exact hl.2
theorem pw_prod {P Q G : Int} (h : Righ P Q G) (U c : NI) : ∀ n, (∀ j, j < n -> inI P Q (U j) = true) -> (∀ j, j < n -> 0 <= c j) -> prodI P (fun j => expI P Q (U j) (c j)) n % P = pw U c n % P := fun n hU hc => h.im_cong n hU hc
theorem Mixd.rowU (m : Mixd P Q G H X Y Z y n o R S T Rho A B Pp Ui Vi Uo Vo) {w : Nat} (hw : w < 3) : imI P Q (rowS8 (2 * n) n (fun i => Uo i w) (7 * n + w) G) (exF Q X Y Z n o R S T Rho) (7 * n + 3) = prodI P (fun j => expI P Q (Ui j w) (powI X ((j : Int) + 1) Q)) n := by
 have h := m.gr
 have hn := m.n1
 have hUo : ∀ i, i < n -> inI P Q (Uo i w) = true := fun i hi => by rw [m.uo i hi]; exact h.mul_in (m.ui _ (m.ord.lt i hi) w) (h.exp_in h.gin)
 refine h.rowS8 (by omega) (by omega) hUo h.gin (fun k => zdJ h.q1' k) (h.prod_in n fun j hj => h.exp_in (m.ui j hj w)) ?_
 rw [pw_prod h (fun j => Ui j w) (fun j => powI X ((j : Int) + 1) Q) n (fun j hj => m.ui j hj w) (fun j _ => zdM _ _ _), exF_w hn, zdS n (fun i hi => ⟨rfl, exF_b hi⟩)]
 refine h.mixed h.gin m.ord (U := fun j => Ui j w) (c := fun j => powI X ((j : Int) + 1) Q) (fun j _ => zdM _ _ _) (fun i hi => m.w0 i hi w) (fun i hi => ?_) (rhoE_nn _ _ _ _ _ _) (rhoE_sum h o Rho w n)
 rw [m.uo i hi]
 exact zbd h.ok rfl (h.exp_cong h.gin (m.w0 i hi w))
theorem Mixd.rowV (m : Mixd P Q G H X Y Z y n o R S T Rho A B Pp Ui Vi Uo Vo) {w : Nat} (hw : w < 3) : imI P Q (rowS8 (2 * n) n (fun i => Vo i w) (7 * n + w) y) (exF Q X Y Z n o R S T Rho) (7 * n + 3) = prodI P (fun j => expI P Q (Vi j w) (powI X ((j : Int) + 1) Q)) n := by
 have h := m.gr
 have hn := m.n1
 have hVo : ∀ i, i < n -> inI P Q (Vo i w) = true := fun i hi => by rw [m.vo i hi]; exact h.mul_in (m.vi _ (m.ord.lt i hi) w) (h.exp_in m.yin)
 refine h.rowS8 (by omega) (by omega) hVo m.yin (fun k => zdJ h.q1' k) (h.prod_in n fun j hj => h.exp_in (m.vi j hj w)) ?_
 rw [pw_prod h (fun j => Vi j w) (fun j => powI X ((j : Int) + 1) Q) n (fun j hj => m.vi j hj w) (fun j _ => zdM _ _ _), exF_w hn, zdS n (fun i hi => ⟨rfl, exF_b hi⟩)]
 refine h.mixed m.yin m.ord (U := fun j => Vi j w) (c := fun j => powI X ((j : Int) + 1) Q) (fun j _ => zdM _ _ _) (fun i hi => m.w0 i hi w) (fun i hi => ?_) (rhoE_nn _ _ _ _ _ _) (rhoE_sum h o Rho w n)
 rw [m.vo i hi]
 exact zbd h.ok rfl (h.exp_cong m.yin (m.w0 i hi w))
end
end
section
open Go.RowKit
def row18 (p : Nat) (x : Int) : Nat -> Int := fun k => if k = p then x else 1
theorem row18_in {P Q G x : Int} (h : Righ P Q G) {p : Nat} (hx : inI P Q x = true) (k : Nat) : inI P Q (row18 p x k) = true := by
 unfold row18
 split
 ·exact hx
 ·exact h.one_in
section
variable (n : Nat) (A B D Pp : NI) (last : Int) (UV : NI) (G H y : Int) (Uo Vo : NN)
def tgt8 (j : Nat) : Int :=
 if j < n then A j else if j < 2 * n then B (j - n) else if j < 3 * n then D (j - 2 * n) else if j < 4 * n - 1 then Pp (j - 3 * n + 1) else if j = 4 * n - 1 then last else UV (j - 4 * n)
def bas8 (j : Nat) : Nat -> Int :=
 if j < n then row28 j G (n + j) H
 else if j < 2 * n then row28 (2 * n + (j - n)) G (3 * n + (j - n)) H
 else if j < 3 * n then row28 (4 * n + (j - 2 * n)) G (5 * n + (j - 2 * n)) H
 else if j < 4 * n - 1 then row28 (4 * n + (j - 3 * n + 1)) (Pp (j - 3 * n)) (6 * n + (j - 3 * n)) H
 else if j = 4 * n - 1 then row18 (7 * n - 1) H
 else if (j - 4 * n) % 2 = 0 then rowS8 (2 * n) n (fun i => Uo i ((j - 4 * n) / 2)) (7 * n + (j - 4 * n) / 2) G
 else rowS8 (2 * n) n (fun i => Vo i ((j - 4 * n) / 2)) (7 * n + (j - 4 * n) / 2) y
end
def uvI (P Q X : Int) (n : Nat) (Ui Vi : NN) (e : Nat) : Int :=
 if e % 2 = 0 then prodI P (fun j => expI P Q (Ui j (e / 2)) (powI X ((j : Int) + 1) Q)) n else prodI P (fun j => expI P Q (Vi j (e / 2)) (powI X ((j : Int) + 1) Q)) n
def lastI (P Q G X Y Z : Int) (n : Nat) (p : Int) : Int := overI P p (expI P Q G (prodI Q (kF Q X Y Z) n))
def tgtT (P Q G X Y Z : Int) (n : Nat) (A B Pp : NI) (Ui Vi : NN) : Nat -> Int :=
 tgt8 n A B (fun i => bigI P Q G (A i) (B i) Y Z) Pp (lastI P Q G X Y Z n (Pp (n - 1))) (uvI P Q X n Ui Vi)
theorem zdW {P Q G x z : Int} (h : Righ P Q G) {p q : Nat} (hx : inI P Q x = true) (hz : inI P Q z = true) (k : Nat) : inI P Q (row28 p x q z k) = true := by
 unfold row28
 split
 ·exact hx
 ·split
  ·exact hz
  ·exact h.one_in
theorem rowS8_in {P Q G z : Int} (h : Righ P Q G) {m n q : Nat} {W : NI} (hW : ∀ i, i < n -> inI P Q (W i) = true) (hz : inI P Q z = true) (k : Nat) : inI P Q (rowS8 m n W q z k) = true := by
 unfold rowS8
 split
 ·exact hW _ (by omega)
 ·split
  ·exact hz
  ·exact h.one_in
structure Elms (P Q G H y : Int) (n : Nat) (A B Pp : NI) (Ui Vi Uo Vo : NN) : Prop where
 gr : Righ P Q G
 hin : inI P Q H = true
 yin : inI P Q y = true
 n1 : 0 < n
 n8 : n <= 8
 a : ∀ i, i < n -> inI P Q (A i) = true
 b : ∀ i, i < n -> inI P Q (B i) = true
 p : ∀ i, i < n -> inI P Q (Pp i) = true
 ui : ∀ j, j < n -> ∀ w, w < 3 -> inI P Q (Ui j w) = true
 vi : ∀ j, j < n -> ∀ w, w < 3 -> inI P Q (Vi j w) = true
 uo : ∀ j, j < n -> ∀ w, w < 3 -> inI P Q (Uo j w) = true
 vo : ∀ j, j < n -> ∀ w, w < 3 -> inI P Q (Vo j w) = true
section
variable {P Q G H X Y Z y : Int} {n : Nat} {A B Pp : NI} {Ui Vi Uo Vo : NN}
theorem Elms.big (m : Elms P Q G H y n A B Pp Ui Vi Uo Vo) (Y Z : Int) {i : Nat} (hi : i < n) : inI P Q (bigI P Q G (A i) (B i) Y Z) = true :=
 m.gr.over_in (m.gr.mul_in (m.gr.exp_in (m.a i hi)) (m.b i hi)) (m.gr.exp_in m.gr.gin)
theorem Elms.uv (m : Elms P Q G H y n A B Pp Ui Vi Uo Vo) (X : Int) {e : Nat} (he : e < 6) : inI P Q (uvI P Q X n Ui Vi e) = true := by
 unfold uvI
 split
 ·exact m.gr.prod_in n fun j hj => m.gr.exp_in (m.ui j hj _ (by omega))
 ·exact m.gr.prod_in n fun j hj => m.gr.exp_in (m.vi j hj _ (by omega))
theorem Elms.tgt (m : Elms P Q G H y n A B Pp Ui Vi Uo Vo) (X Y Z : Int) {j : Nat} (hj : j < 4 * n + 6) : inI P Q (tgtT P Q G X Y Z n A B Pp Ui Vi j) = true := by
 have hn := m.n1
 unfold tgtT tgt8
 repeat' split
 ·exact m.a _ (by omega)
 ·exact m.b _ (by omega)
 ·exact m.big _ _ (by omega)
 ·exact m.p _ (by omega)
 ·exact m.gr.over_in (m.p _ (by omega)) (m.gr.exp_in m.gr.gin)
 ·exact m.uv X (by omega)
theorem Elms.bas (m : Elms P Q G H y n A B Pp Ui Vi Uo Vo) {j : Nat} (hj : j < 4 * n + 6) (k : Nat) : inI P Q (bas8 n Pp G H y Uo Vo j k) = true := by
 have hn := m.n1
 unfold bas8
 repeat' split
 ·exact zdW m.gr m.gr.gin m.hin k
 ·exact zdW m.gr m.gr.gin m.hin k
 ·exact zdW m.gr m.gr.gin m.hin k
 ·exact zdW m.gr (m.p _ (by omega)) m.hin k
 ·exact row18_in m.gr m.hin k
 ·exact rowS8_in m.gr (fun i hi => m.uo i hi _ (by omega)) m.gr.gin k
 ·exact rowS8_in m.gr (fun i hi => m.vo i hi _ (by omega)) m.yin k
theorem Elms.claim (m : Elms P Q G H y n A B Pp Ui Vi Uo Vo) (X Y Z : Int) : IsClaim P Q (4 * n + 6) (tgtT P Q G X Y Z n A B Pp Ui Vi) (4 * n + 6) (fun _ => 7 * n + 3) (bas8 n Pp G H y Uo Vo) (7 * n + 3) :=
 ⟨by omega, by have := m.n8; omega, rfl, by omega, by have := m.n8; omega, fun _ _ => rfl, fun j hj => m.tgt X Y Z hj, fun j hj i _ => m.bas hj i⟩
end
section
variable {P Q G H X Y Z y : Int} {n : Nat} {o : Nat -> Nat} {R S T : NI} {Rho : NN} {A B Pp : NI} {Ui Vi Uo Vo : NN}
theorem Mixd.elms (m : Mixd P Q G H X Y Z y n o R S T Rho A B Pp Ui Vi Uo Vo) (hn : n <= 8) : Elms P Q G H y n A B Pp Ui Vi Uo Vo := by
 have h := m.gr
 refine ⟨h, m.hin, m.yin, m.n1, hn, fun i hi => ?_, fun i hi => ?_, fun i hi => (m.pp i hi).1, fun j hj w _ => m.ui j hj w, fun j hj w _ => m.vi j hj w, fun i hi w _ => ?_, fun i hi w _ => ?_⟩
 ·rw [m.a i hi]; exact (h.com m.hin (by omega) (m.r0 i hi)).1
 ·rw [m.b i hi]; exact (h.com m.hin (zdM _ _ _) (m.s0 i hi)).1
 ·rw [m.uo i hi]; exact h.mul_in (m.ui _ (m.ord.lt i hi) w) (h.exp_in h.gin)
 ·rw [m.vo i hi]; exact h.mul_in (m.vi _ (m.ord.lt i hi) w) (h.exp_in m.yin)
theorem Mixd.holds (m : Mixd P Q G H X Y Z y n o R S T Rho A B Pp Ui Vi Uo Vo) {j : Nat} (hj : j < 4 * n + 6) : imI P Q (bas8 n Pp G H y Uo Vo j) (exF Q X Y Z n o R S T Rho) (7 * n + 3) = tgtT P Q G X Y Z n A B Pp Ui Vi j := by
 have hn := m.n1
 unfold bas8 tgtT tgt8
 by_cases h1 : j < n
 ·rw [if_pos h1, if_pos h1]
  exact m.rowA h1
 rw [if_neg h1, if_neg h1]
 by_cases h2 : j < 2 * n
 ·rw [if_pos h2, if_pos h2]
  exact m.rowB (by omega)
 rw [if_neg h2, if_neg h2]
 by_cases h3 : j < 3 * n
 ·rw [if_pos h3, if_pos h3]
  exact m.rowD (by omega)
 rw [if_neg h3, if_neg h3]
 by_cases h4 : j < 4 * n - 1
 ·rw [if_pos h4, if_pos h4]
  exact m.rowP (by omega)
 rw [if_neg h4, if_neg h4]
 by_cases h5 : j = 4 * n - 1
 ·rw [if_pos h5, if_pos h5]
  exact m.rowL (fun k _ hk => if_neg hk) (if_pos rfl)
 rw [if_neg h5, if_neg h5]
 unfold uvI
 by_cases h6 : (j - 4 * n) % 2 = 0
 ·rw [if_pos h6, if_pos h6]
  exact m.rowU (by omega)
 ·rw [if_neg h6, if_neg h6]
  exact m.rowV (by omega)
end
end
section
open Go.RowKit
theorem own_oth8 {w : World} {base : Nat} {e : TypeId} {size : Nat} {v : Value} {n : Nat} {xs : List Value} (h : w.ownsRow base e size v n xs) {p : Addr} (hne : v.ownBlock ≠ some p.block) (u : Value) : (w.setCell p u).ownsRow base e size v n xs := by
 refine ⟨h.1, ?_⟩
 rcases h.2 with h2 | ⟨g, cap, cur, hv, hb, hg, r⟩
 ·exact Or.inl h2
 ·refine Or.inr ⟨g, cap, cur, hv, hb, ?_, r⟩
  rw [Below.heap_setCell w p u g (fun he => hne (by rw [hv, <- he]; rfl))]
  exact hg
structure Ly (W : World) (s N : Nat) (Ks : List (Nat × Obj)) (T : NI) (Bs : NN) (i k : Nat) (v u : Value) (bk : Nat -> Nat) (wx : World) : Prop where
 old : Old W wx
 ws : W.heap.size <= s
 big : s + 1 <= wx.heap.size
 nums : Nums wx (s + 1) v i T
 own : wx.ownsRow (s + 1) 29 1 u k ((List.range k).map fun j => Value.slice (some ⟨bk j, 0, none⟩) N N)
 full : ∀ j, j < k -> s + 1 <= bk j /\ Full wx (bk j) N (Bs j)
 inj : ∀ i j, i < k -> j < k -> bk i = bk j -> i = j
 s1 : ∀ j, j < k -> v.ownBlock ≠ some (bk j)
 s2 : ∀ j, j < k -> u.ownBlock ≠ some (bk j)
 s3 : v.ownBlock = none ∨ u.ownBlock ≠ v.ownBlock
 prot : ∀ e, e ∈ Ks -> wx.heap[e.1]? = some e.2 /\ e.1 ≠ s /\ v.ownBlock ≠ some e.1 /\ u.ownBlock ≠ some e.1 /\ ∀ j, j < k -> bk j ≠ e.1
section
variable {W w wx w' : World} {s N : Nat} {Ks : List (Nat × Obj)} {T : NI} {Bs : NN} {i k : Nat} {v u : Value} {bk : Nat -> Nat}
theorem zah {b : Nat} {o : Obj} (h : w.heap[b]? = some o) : b < w.heap.size := (Array.getElem?_eq_some_iff.1 h).1
theorem Ly.old' (h : Ly W s N Ks T Bs i k v u bk wx) (ho : Old wx w') : Ly W s N Ks T Bs i k v u bk w' :=
 ⟨h.old.trans ho, h.ws, Nat.le_trans h.big ho.size, h.nums.old ho, zbu h.own ho, fun j hj => ⟨(h.full j hj).1, (h.full j hj).2.old ho⟩, h.inj, h.s1, h.s2, h.s3, fun e he => by
  obtain ⟨h1, h2⟩ := h.prot e he
  exact ⟨(ho.block _ (zah h1)).trans h1, h2⟩⟩
theorem Ly.set (h : Ly W s N Ks T Bs i k v u bk wx) (j : Nat) (x : Value) : Ly W s N Ks T Bs i k v u bk (wx.setCell ⟨s, j, none⟩ x) :=
 ⟨h.old.setCell (p := ⟨s, j, none⟩) h.ws _, h.ws, by have := h.big; simpa using this, ownsRow_setCell_below h.nums (Nat.lt_succ_self _) _, ownsRow_setCell_below h.own (Nat.lt_succ_self _) _, fun j' hj => ⟨(h.full j' hj).1, (h.full j' hj).2.other (by have := (h.full j' hj).1; show bk j' ≠ s; omega) _⟩, h.inj, h.s1, h.s2, h.s3, fun e he => by
  obtain ⟨h1, h2, h3⟩ := h.prot e he
  exact ⟨(Below.heap_setCell _ _ _ _ h2).trans h1, h2, h3⟩⟩
theorem Ly.tgt {g cap : Nat} {x : Int} (h : Ly W s N Ks T Bs i k v u bk w) (hx : T i = x) (hown : w'.ownsRow (s + 1) 22 1 (.slice (some ⟨g, 0, none⟩) (i + 1) cap) (i + 1) ((List.range i).map (fun j => Value.int .u64 (T j)) ++ [.int .u64 x])) (hg : w.grownBy w' v.ownBlock) (hat : v.ownBlock = some g ∨ g = w.heap.size) : Ly W s N Ks T Bs (i + 1) k (.slice (some ⟨g, 0, none⟩) (i + 1) cap) u bk w' := by
 have hu := World.ownsRow.lt h.own
 refine ⟨h.old.grown hg fun b hb => ?_, h.ws, Nat.le_trans h.big hg.size, Nums.app hown hx, h.own.kept hg ?_, fun j hj => ⟨(h.full j hj).1, (h.full j hj).2.grown hg (h.s1 j hj)⟩, h.inj, fun j hj he => ?_, h.s2, Or.inr fun he => ?_, fun e he => ?_⟩
 ·have := (World.ownsRow.lt h.nums b hb).1; have := h.ws; omega
 ·rcases h.s3 with h3 | h3
  ·rw [h3]; cases hx : u.ownBlock
   ·exact Or.inl rfl
   ·exact Or.inr (by simp)
  ·exact Or.inr h3
 ·have he' : g = bk j := by simpa [Value.ownBlock] using he
  rcases hat with h1 | h1
  ·exact h.s1 j hj (by rw [h1, he'])
  ·have := (h.full j hj).2.lt; omega
 ·have he' : u.ownBlock = some g := he
  rcases hat with h1 | h1
  ·rcases h.s3 with h3 | h3
   ·rw [h3] at h1; cases h1
   ·exact h3 (by rw [he', h1])
  ·have := (hu g he').2; omega
 ·obtain ⟨h1, h2, h3, h4, h5⟩ := h.prot e he
  refine ⟨(hg.block _ (zah h1) (Ne.symm h3)).trans h1, h2, fun hc => ?_, h4, h5⟩
  have hc' : g = e.1 := by simpa [Value.ownBlock] using hc
  rcases hat with h6 | h6
  ·exact h3 (by rw [h6, hc'])
  ·have := zah h1; omega
theorem Ly.bas {b g cap : Nat} (h : Ly W s N Ks T Bs i k v u bk w) (hb : s + 1 <= b) (hF : Full w b N (Bs k)) (hvb : v.ownBlock ≠ some b) (hub : u.ownBlock ≠ some b) (hnb : ∀ j, j < k -> bk j ≠ b) (hkb : ∀ e, e ∈ Ks -> b ≠ e.1) (hown : w'.ownsRow (s + 1) 29 1 (.slice (some ⟨g, 0, none⟩) (k + 1) cap) (k + 1) ((List.range k).map (fun j => Value.slice (some ⟨bk j, 0, none⟩) N N) ++ [.slice (some ⟨b, 0, none⟩) N N])) (hg : w.grownBy w' u.ownBlock) (hat : u.ownBlock = some g ∨ g = w.heap.size) :
  Ly W s N Ks T Bs i (k + 1) v (.slice (some ⟨g, 0, none⟩) (k + 1) cap) (fun j => if j = k then b else bk j) w' := by
 have hv := World.ownsRow.lt h.nums
 refine ⟨h.old.grown hg fun c hc => ?_, h.ws, Nat.le_trans h.big hg.size, World.ownsRow.kept h.nums hg ?_, ?_, fun j hj => ?_, fun p q hp hq he => ?_, fun j hj he => ?_, fun j hj he => ?_, ?_, fun e he => ?_⟩
 ·have := (World.ownsRow.lt h.own c hc).1; have := h.ws; omega
 ·rcases h.s3 with h3 | h3
  ·exact Or.inl h3
  ·exact Or.inr (Ne.symm h3)
 ·have e : (List.range (k + 1)).map (fun j => Value.slice (some ⟨if j = k then b else bk j, 0, none⟩) N N) = (List.range k).map (fun j => Value.slice (some ⟨bk j, 0, none⟩) N N) ++ [.slice (some ⟨b, 0, none⟩) N N] := by
   rw [List.range_succ, List.map_append]
   congr 1
   ·refine List.map_congr_left fun j hj => ?_
    have := List.mem_range.1 hj
    rw [if_neg (by omega)]
   ·simp
  rw [e]
  exact hown
 ·by_cases hjk : j = k
  ·subst hjk
   simp only [if_true]
   exact ⟨hb, hF.grown hg hub⟩
  ·rw [if_neg hjk]
   exact ⟨(h.full j (by omega)).1, (h.full j (by omega)).2.grown hg (h.s2 j (by omega))⟩
 ·by_cases h1 : p = k
  ·by_cases h2 : q = k
   ·omega
   ·rw [if_pos h1, if_neg h2] at he
    exact absurd he.symm (hnb q (by omega))
  ·by_cases h2 : q = k
   ·rw [if_neg h1, if_pos h2] at he
    exact absurd he (hnb p (by omega))
   ·rw [if_neg h1, if_neg h2] at he
    exact h.inj p q (by omega) (by omega) he
 ·by_cases hjk : j = k
  ·subst hjk
   simp only [if_true] at he
   exact hvb he
  ·rw [if_neg hjk] at he
   exact h.s1 j (by omega) he
 ·have he' : g = if j = k then b else bk j := by simpa [Value.ownBlock] using he
  by_cases hjk : j = k
  ·rw [if_pos hjk] at he'
   rcases hat with h1 | h1
   ·exact hub (by rw [h1, he'])
   ·have := hF.lt; omega
  ·rw [if_neg hjk] at he'
   rcases hat with h1 | h1
   ·exact h.s2 j (by omega) (by rw [h1, he'])
   ·have := (h.full j (by omega)).2.lt; omega
 ·cases hvo : v.ownBlock with
  | none => exact Or.inl rfl
  | some c =>
   refine Or.inr fun he => ?_
   have he' : g = c := by simpa [Value.ownBlock] using he
   have hc := (hv c hvo).2
   rcases hat with h1 | h1
   ·rcases h.s3 with h3 | h3
    ·rw [h3] at hvo; cases hvo
    ·exact h3 (by rw [h1, hvo, he'])
   ·omega
 ·obtain ⟨h1, h2, h3, h4, h5⟩ := h.prot e he
  refine ⟨(hg.block _ (zah h1) (Ne.symm h4)).trans h1, h2, h3, fun hc => ?_, fun j hj => ?_⟩
  ·have hc' : g = e.1 := by simpa [Value.ownBlock] using hc
   rcases hat with h6 | h6
   ·exact h4 (by rw [h6, hc'])
   ·have := zah h1; omega
  ·by_cases hjk : j = k
   ·rw [if_pos hjk]; exact hkb e he
   ·rw [if_neg hjk]; exact h5 j (by omega)
theorem Ly.cell (h : Ly W s N Ks T Bs i k v u bk w) {r p : Nat} (hr : r < k) (x : Int) : Ly W s N Ks T (fun j => if j = r then (fun q => if q = p then x else Bs r q) else Bs j) i k v u bk (w.setCell ⟨bk r, p, none⟩ (.int .u64 x)) := by
 have hb := (h.full r hr).1
 have hg : (w.setCell ⟨bk r, p, none⟩ (.int .u64 x)).heap.size = w.heap.size := by simp
 refine ⟨h.old.setCell (p := ⟨bk r, p, none⟩) (by have := h.ws; show W.heap.size <= bk r; omega) _, h.ws, by rw [hg]; exact h.big, own_oth8 h.nums (p := ⟨bk r, p, none⟩) (h.s1 r hr) _, own_oth8 h.own (p := ⟨bk r, p, none⟩) (h.s2 r hr) _, fun j hj => ?_, h.inj, h.s1, h.s2, h.s3, fun e he => ?_⟩
 ·by_cases hjr : j = r
  ·subst hjr
   rw [if_pos rfl]
   exact ⟨hb, (h.full j hj).2.set p x⟩
  ·rw [if_neg hjr]
   exact ⟨(h.full j hj).1, (h.full j hj).2.other (p := ⟨bk r, p, none⟩) (fun hc => hjr (h.inj j r hj hr hc)) _⟩
 ·obtain ⟨h1, h2, h3, h4, h5⟩ := h.prot e he
  exact ⟨(Below.heap_setCell _ ⟨bk r, p, none⟩ _ _ (Ne.symm (h5 r hr))).trans h1, h2, h3, h4, h5⟩
theorem Ly.congr {Bs' : NN} (h : Ly W s N Ks T Bs i k v u bk w) (he : ∀ j, j < k -> ∀ q, q < N -> Bs j q = Bs' j q) : Ly W s N Ks T Bs' i k v u bk w :=
 ⟨h.old, h.ws, h.big, h.nums, h.own, fun j hj => ⟨(h.full j hj).1, (h.full j hj).2.congr (he j hj)⟩, h.inj, h.s1, h.s2, h.s3, h.prot⟩
theorem Ly.less {Ks' : List (Nat × Obj)} (h : Ly W s N Ks T Bs i k v u bk w) (he : ∀ e, e ∈ Ks' -> e ∈ Ks) : Ly W s N Ks' T Bs i k v u bk w :=
 ⟨h.old, h.ws, h.big, h.nums, h.own, h.full, h.inj, h.s1, h.s2, h.s3, fun e hm => h.prot e (he e hm)⟩
theorem Ly.more (h : Ly W s N Ks T Bs i k v u bk w) (o : Obj) : Ly W s N ((w.heap.size, o) :: Ks) T Bs i k v u bk (w.alloc o) := by
 have h' := h.old' ((Old.refl _).alloc o)
 refine ⟨h'.old, h'.ws, h'.big, h'.nums, h'.own, h'.full, h.inj, h.s1, h.s2, h.s3, fun e he => ?_⟩
 rcases List.mem_cons.1 he with rfl | he
 ·refine ⟨heap_alloc_new w o, by have := h.big; show w.heap.size ≠ s; omega, fun hc => ?_, fun hc => ?_, fun j hj hc => ?_⟩
  ·have := (World.ownsRow.lt h.nums _ hc).2; exact Nat.lt_irrefl _ this
  ·have := (World.ownsRow.lt h.own _ hc).2; exact Nat.lt_irrefl _ this
  ·have := (h.full j hj).2.lt; rw [hc] at this; exact Nat.lt_irrefl _ this
 ·exact h'.prot e he
end
structure LayS (W : World) (s n : Nat) (Ks : List (Nat × Obj)) (T : NI) (Bs : NN) (k : Nat) (v u : Value) (bk : Nat -> Nat) (wx : World) : Prop where
 ly : Ly W s (7 * n + 3) Ks T Bs k k v u bk wx
 row : wx.heap[s]? = some (.cells #[.int .i64 (n : Int), v, u] 109 (0, 0))
section
variable {W w wx w' : World} {s n : Nat} {Ks : List (Nat × Obj)} {T : NI} {Bs : NN} {k : Nat} {v u : Value} {bk : Nat -> Nat}
theorem LayS.old' (h : LayS W s n Ks T Bs k v u bk wx) (ho : Old wx w') : LayS W s n Ks T Bs k v u bk w' := ⟨h.ly.old' ho, (ho.block _ h.ly.big).trans h.row⟩
theorem LayS.congr {Bs' : NN} (h : LayS W s n Ks T Bs k v u bk w) (he : ∀ j, j < k -> ∀ q, q < 7 * n + 3 -> Bs j q = Bs' j q) : LayS W s n Ks T Bs' k v u bk w := ⟨h.ly.congr he, h.row⟩
theorem LayS.less {Ks' : List (Nat × Obj)} (h : LayS W s n Ks T Bs k v u bk w) (he : ∀ e, e ∈ Ks' -> e ∈ Ks) : LayS W s n Ks' T Bs k v u bk w := ⟨h.ly.less he, h.row⟩
theorem LayS.more (h : LayS W s n Ks T Bs k v u bk w) (o : Obj) : LayS W s n ((w.heap.size, o) :: Ks) T Bs k v u bk (w.alloc o) := ⟨h.ly.more o, (((Old.refl w).alloc o).block _ h.ly.big).trans h.row⟩
theorem LayS.cell (h : LayS W s n Ks T Bs k v u bk w) {r p : Nat} (hr : r < k) (x : Int) : LayS W s n Ks T (fun j => if j = r then (fun q => if q = p then x else Bs r q) else Bs j) k v u bk (w.setCell ⟨bk r, p, none⟩ (.int .u64 x)) :=
 ⟨h.ly.cell hr x, (Below.heap_setCell _ ⟨bk r, p, none⟩ _ _ (by have := (h.ly.full r hr).1; show s ≠ bk r; omega)).trans h.row⟩
end
end
section
open Go.RowKit
theorem zbp {a b : Int} (h : a = b) : Ending.returned (.int .i64 a) = .returned (.int .i64 b) := by rw [h]
theorem lm_r (s n i : Nat) (v u : Value) (w : World) (hn : n <= 8) (hi : i <= 100) (h : w.heap[s]? = some (.cells #[.int .i64 (n : Int), v, u] 109 (0, 0))) : Calls prog 115 #[.pointer (some ⟨s, 0, none⟩), .int .i64 (i : Int)] w (Ret w (.int .i64 ((n + i : Nat) : Int))) := by
 have c0 : w.cell? ⟨s, 0, none⟩ = some (.int .i64 (n : Int)) := cell_of_row _ _ 0 _ _ (0, 0) h
 clear h
 go_enter func115, ntmps115
 go_wp2_with fail
 go_ret
 exact ⟨zbp (by omega), Old.refl _⟩
theorem lm_b (s n i : Nat) (v u : Value) (w : World) (hn : n <= 8) (hi : i <= 100) (h : w.heap[s]? = some (.cells #[.int .i64 (n : Int), v, u] 109 (0, 0))) : Calls prog 116 #[.pointer (some ⟨s, 0, none⟩), .int .i64 (i : Int)] w (Ret w (.int .i64 ((2 * n + i : Nat) : Int))) := by
 have c0 : w.cell? ⟨s, 0, none⟩ = some (.int .i64 (n : Int)) := cell_of_row _ _ 0 _ _ (0, 0) h
 clear h
 go_enter func116, ntmps116
 go_wp2_with fail
 go_ret
 exact ⟨zbp (by omega), Old.refl _⟩
theorem lm_s (s n i : Nat) (v u : Value) (w : World) (hn : n <= 8) (hi : i <= 100) (h : w.heap[s]? = some (.cells #[.int .i64 (n : Int), v, u] 109 (0, 0))) : Calls prog 117 #[.pointer (some ⟨s, 0, none⟩), .int .i64 (i : Int)] w (Ret w (.int .i64 ((3 * n + i : Nat) : Int))) := by
 have c0 : w.cell? ⟨s, 0, none⟩ = some (.int .i64 (n : Int)) := cell_of_row _ _ 0 _ _ (0, 0) h
 clear h
 go_enter func117, ntmps117
 go_wp2_with fail
 go_ret
 exact ⟨zbp (by omega), Old.refl _⟩
theorem lm_d (s n i : Nat) (v u : Value) (w : World) (hn : n <= 8) (hi : i <= 100) (h : w.heap[s]? = some (.cells #[.int .i64 (n : Int), v, u] 109 (0, 0))) : Calls prog 118 #[.pointer (some ⟨s, 0, none⟩), .int .i64 (i : Int)] w (Ret w (.int .i64 ((4 * n + i : Nat) : Int))) := by
 have c0 : w.cell? ⟨s, 0, none⟩ = some (.int .i64 (n : Int)) := cell_of_row _ _ 0 _ _ (0, 0) h
 clear h
 go_enter func118, ntmps118
 go_wp2_with fail
 go_ret
 exact ⟨zbp (by omega), Old.refl _⟩
theorem lm_u (s n i : Nat) (v u : Value) (w : World) (hn : n <= 8) (hi : i <= 100) (h : w.heap[s]? = some (.cells #[.int .i64 (n : Int), v, u] 109 (0, 0))) : Calls prog 119 #[.pointer (some ⟨s, 0, none⟩), .int .i64 (i : Int)] w (Ret w (.int .i64 ((5 * n + i : Nat) : Int))) := by
 have c0 : w.cell? ⟨s, 0, none⟩ = some (.int .i64 (n : Int)) := cell_of_row _ _ 0 _ _ (0, 0) h
 clear h
 go_enter func119, ntmps119
 go_wp2_with fail
 go_ret
 exact ⟨zbp (by omega), Old.refl _⟩
theorem lm_t (s n i : Nat) (v u : Value) (w : World) (hn : n <= 8) (hi : i <= 100) (h : w.heap[s]? = some (.cells #[.int .i64 (n : Int), v, u] 109 (0, 0))) : Calls prog 120 #[.pointer (some ⟨s, 0, none⟩), .int .i64 (i : Int)] w (Ret w (.int .i64 ((6 * n + i : Nat) : Int))) := by
 have c0 : w.cell? ⟨s, 0, none⟩ = some (.int .i64 (n : Int)) := cell_of_row _ _ 0 _ _ (0, 0) h
 clear h
 go_enter func120, ntmps120
 go_wp2_with fail
 go_ret
 exact ⟨zbp (by omega), Old.refl _⟩
theorem lm_rho (s n i : Nat) (v u : Value) (w : World) (hn : n <= 8) (hi : i <= 100) (h : w.heap[s]? = some (.cells #[.int .i64 (n : Int), v, u] 109 (0, 0))) : Calls prog 123 #[.pointer (some ⟨s, 0, none⟩), .int .i64 (i : Int)] w (Ret w (.int .i64 ((7 * n + i : Nat) : Int))) := by
 have c0 : w.cell? ⟨s, 0, none⟩ = some (.int .i64 (n : Int)) := cell_of_row _ _ 0 _ _ (0, 0) h
 clear h
 go_enter func123, ntmps123
 go_wp2_with fail
 go_ret
 exact ⟨zbp (by omega), Old.refl _⟩
theorem lm_tLast (s n : Nat) (v u : Value) (w : World) (h1 : 0 < n) (hn : n <= 8) (h : w.heap[s]? = some (.cells #[.int .i64 (n : Int), v, u] 109 (0, 0))) : Calls prog 122 #[.pointer (some ⟨s, 0, none⟩)] w (Ret w (.int .i64 ((7 * n - 1 : Nat) : Int))) := by
 have c0 : w.cell? ⟨s, 0, none⟩ = some (.int .i64 (n : Int)) := cell_of_row _ _ 0 _ _ (0, 0) h
 clear h
 go_enter func122, ntmps122
 go_wp2_with fail
 go_ret
 exact ⟨zbp (by omega), Old.refl _⟩
theorem lm_a (s i : Nat) (w : World) : Calls prog 114 #[.pointer (some ⟨s, 0, none⟩), .int .i64 (i : Int)] w (Ret w (.int .i64 (i : Int))) := by
 go_enter func114, ntmps114
 go_wp2_with fail
 go_ret
 exact ⟨rfl, Old.refl _⟩
theorem ssize_any (n : Nat) (w : World) (hn : n <= 80) : Calls prog 125 #[.int .i64 (n : Int)] w (Ret w (.int .i64 ((7 * n + 3 : Nat) : Int))) := by
 go_enter func125, ntmps125
 go_wp2_with fail
 go_ret
 exact ⟨zbp (by omega), Old.refl _⟩
def ones8 (B : NN) (k : Nat) : Nat -> Nat -> Int := fun j => if j < k then B j else fun _ => 1
theorem ladd_any (W : World) (s n : Nat) (Ks : List (Nat × Obj)) (T : NI) (B : NN) (k : Nat) (v u : Value) (bk : Nat -> Nat) (x : Int) (w : World) (hn : n <= 8) (hk : k <= 100) (hx : T k = x) (h : LayS W s n Ks T B k v u bk w) :
  Calls prog 113 #[.pointer (some ⟨s, 0, none⟩), .int .u64 x] w fun e w' => ∃ v' u' b, e = .returned (.slice (some ⟨b, 0, none⟩) (7 * n + 3) (7 * n + 3)) /\ LayS W s n Ks T (ones8 B k) (k + 1) v' u' (fun j => if j = k then b else bk j) w' := by
 have HL : Hid (LayS W s n Ks T B k v u bk w) := h
 have c0 : w.cell? ⟨s, 0, none⟩ = some (.int .i64 (n : Int)) := cell_of_row _ _ 0 _ _ (0, 0) h.row
 have HX : Hid (T k = x) := hx
 obtain ⟨N, hN⟩ : ∃ N, N = 7 * n + 3 := ⟨_, rfl⟩
 have HS : Hid (∀ wx, Calls prog 125 #[.int .i64 (n : Int)] wx (Ret wx (.int .i64 (N : Int)))) := fun wx => by rw [hN]; exact ssize_any n wx (by omega)
 have hN8 : N <= 80 := by omega
 have HNe : Hid (N = 7 * n + 3) := hN
 clear h hx hN
 have hmk := zaP N hN8
 obtain ⟨i0, hi0, hz0, hz1, hz2⟩ := info_parts zbj
 obtain ⟨i1, hi1, hy0, hy1, hy2⟩ := info_parts slinfo
 go_enter func113, ntmps113
 go_upto_region 2 with (go_at_call 125; refine (HS.out _).mono ?_; rintro e w1 ⟨rfl, o1⟩)
 have HF0 := zaC w1 N (fun _ => 1)
 have HW1 : Hid (Old w (w1.alloc (.cells (madeCells #[Value.int .u64 0] N) 22))) := o1.alloc _
 have hb1 : w.heap.size <= w1.heap.size := o1.size
 clear c0 o1
 generalize w1.alloc (.cells (madeCells #[Value.int .u64 0] N) 22) = W1 at *
 generalize w1.heap.size = b at *
 go_upto_region 3 with fail
 go_loopw [15] (fun iv wx => ∃ i : Nat, iv = .int .i64 (i : Int) /\ i <= N /\ Hid (Full wx b N (upTo i (fun _ => 1))) /\ Hid (Old w wx)) (fun iv _ => N - (intOf iv).toNat)
 case atStart => exact ⟨0, rfl, Nat.zero_le _, HF0, HW1⟩
 case round =>
  obtain ⟨i, rfl, hi, HN, HO⟩ := hrel
  by_cases hlt : i < N
  ·have q0 := HN.out.cell i hlt
   have f0 := HN.out.free i
   have HG : Hid (Full (wr.setCell ⟨b, i, none⟩ (.int .u64 1)) b N (upTo (i + 1) (fun _ => 1))) := HN.out.next
   have HG2 : Hid (Old w (wr.setCell ⟨b, i, none⟩ (.int .u64 1))) := HO.out.setCell hb1 _
   go_wp2_with fail
   go_roundw
   case rel => exact ⟨i + 1, zab i, by omega, HG, HG2⟩
   case measure => simp [intOf]; omega
  ·have he : N = i := by omega
   subst he
   have HD : Hid (Full wr b N (fun _ => 1)) := HN.out.done
   have HL1 : Hid (LayS W s n Ks T B k v u bk wr) := HL.out.old' HO.out
   have hrow := HL1.out.row
   have HM : Hid (v.ownBlock ≠ some b /\ u.ownBlock ≠ some b /\ (∀ j, j < k -> bk j ≠ b) /\ (∀ e, e ∈ Ks -> b ≠ e.1) /\ s + 1 <= b) := by
    have hl := HL.out.ly
    refine ⟨fun he => ?_, fun he => ?_, fun j hj he => ?_, fun e hm he => ?_, ?_⟩
    ·have := (World.ownsRow.lt hl.nums b he).2; omega
    ·have := (World.ownsRow.lt hl.own b he).2; omega
    ·have := (hl.full j hj).2.lt; omega
    ·have := zah (hl.prot e hm).1; omega
    ·have := hl.big; omega
   have c1 : wr.cell? ⟨s, 1, none⟩ = some v := cell_of_row _ _ 1 _ _ (0, 0) hrow
   have hs8 := HL1.out.ly.big
   clear hrow HN HL HF0 HO HW1
   have HF1 : Hid (Full wr b N (fun _ => 1)) := HD
   have HLo : Hid (LayS W s n Ks T (ones8 B k) k v u bk wr) := HL1.out.congr fun j hj q _ => by unfold ones8; rw [if_pos hj]
   have hBk : ones8 B k k = fun _ => 1 := by unfold ones8; rw [if_neg (Nat.lt_irrefl k)]
   have HFo : Hid (Full wr b N (ones8 B k k)) := by unfold Hid; rw [hBk]; exact HF1.out
   obtain ⟨Bo, hBo⟩ : ∃ Bo, Bo = ones8 B k := ⟨_, rfl⟩
   rw [<- hBo] at HLo HFo
   have HBo : Hid (Bo = ones8 B k) := hBo
   clear hBo hBk
   obtain ⟨hly, hrw⟩ := HLo.out
   rw [<- HNe.out] at hly
   have HA : Hid (Ly W s N Ks T Bo k k v u bk wr) := hly
   have HAr : Hid (wr.heap[s]? = some (.cells #[.int .i64 (n : Int), v, u] 109 (0, 0))) := hrw
   clear HD HF1 HL1 HLo hly hrw HS hmk
   go_wp2_with (at_builtin; refine wpList_append_lies _ rfl _ _ 29 rfl (s + 1) 22 i0 (.int .u64 0) 1 8 underlying29 hi0 hz0 hz1 hz2 rfl (by decide) _ _ _ rfl (World.ownsRow.alloc HA.out.nums _) ⟨wr.heap.size, 0, none⟩ 1 1 [.int .u64 x] rfl rfl ?c1 ?c2 (by decide) ?c3 ?c4 ?c5 _ rfl ?_)
   case c1 => exact cell_one_new _ _ _
   case c2 => intro u hu; simp at hu; subst hu; rfl
   case c3 => unfold maxLen; omega
   case c4 => omega
   case c5 => simp; omega
   intro g5 cap5 w5 hown5 hgrow5 hat5 _
   have HB : Hid (Ly W s N Ks T Bo (k + 1) k (.slice (some ⟨g5, 0, none⟩) (k + 1) cap5) u bk w5) := (HA.out.old' ((Old.refl _).alloc _)).tgt HX.out hown5 hgrow5 (by simpa using hat5)
   have HFb : Hid (Full w5 b N (Bo k)) := (HFo.out.old ((Old.refl _).alloc _)).grown hgrow5 HM.out.1
   have HBr : Hid (w5.heap[s]? = some (.cells #[.int .i64 (n : Int), v, u] 109 (0, 0))) := by
    unfold Hid
    rw [hgrow5.block s (by simp; omega) (fun e => by have := (World.ownsRow.lt HA.out.nums _ e.symm).1; omega), Below.heap_alloc _ _ _ (by omega)]
    exact HAr.out
   have hvb : Hid ((Value.slice (some ⟨g5, 0, none⟩) (k + 1) cap5).ownBlock ≠ some b) := by
    intro he
    have he' : g5 = b := by simpa [Value.ownBlock] using he
    rcases hat5 with h1 | h1
    ·exact HM.out.1 (by rw [h1, he'])
    ·have := HFo.out.lt; first | omega | (simp at h1; omega)
   clear hown5 hgrow5 hat5 HA HAr c1 hs8 HFo
   have q0 : w5.cell? ⟨s, 1, none⟩ = some v := cell_of_row _ _ 1 _ _ (0, 0) HBr.out
   have f0 : w5.frozen? ⟨s, 1, none⟩ = false := zac HBr.out 1
   go_upto_region 8 with fail
   have HC : Hid (Ly W s N Ks T Bo (k + 1) k (.slice (some ⟨g5, 0, none⟩) (k + 1) cap5) u bk (w5.setCell ⟨s, 1, none⟩ (.slice (some ⟨g5, 0, none⟩) (k + 1) cap5))) := HB.out.set 1 _
   have HFc : Hid (Full (w5.setCell ⟨s, 1, none⟩ (.slice (some ⟨g5, 0, none⟩) (k + 1) cap5)) b N (Bo k)) := HFb.out.other (p := ⟨s, 1, none⟩) (by have := HM.out.2.2.2.2; show b ≠ s; omega) _
   have HCr : Hid ((w5.setCell ⟨s, 1, none⟩ (.slice (some ⟨g5, 0, none⟩) (k + 1) cap5)).heap[s]? = some (.cells #[.int .i64 (n : Int), .slice (some ⟨g5, 0, none⟩) (k + 1) cap5, u] 109 (0, 0))) := by have := zaq HBr.out 1 (.slice (some ⟨g5, 0, none⟩) (k + 1) cap5); unfold Hid; simpa using this
   clear HB HFb HBr q0 f0
   generalize w5.setCell ⟨s, 1, none⟩ (.slice (some ⟨g5, 0, none⟩) (k + 1) cap5) = w6 at *
   have c2 : w6.cell? ⟨s, 2, none⟩ = some u := cell_of_row _ _ 2 _ _ (0, 0) HCr.out
   have hs6 : s + 1 <= w6.heap.size := HC.out.big
   go_wp2_with (at_builtin; refine wpList_append_lies _ rfl _ _ 48 rfl (s + 1) 29 i1 (.slice none 0 0) 1 24 underlying48 hi1 hy0 hy1 hy2 rfl (by decide) _ _ _ rfl (World.ownsRow.alloc HC.out.own _) ⟨w6.heap.size, 0, none⟩ 1 1 [.slice (some ⟨b, 0, none⟩) N N] rfl rfl ?c1 ?c2 (by decide) ?c3 ?c4 ?c5 _ rfl ?_)
   case c1 => exact cell_one_new _ _ _
   case c2 => intro x hx; simp at hx; subst hx; rfl
   case c3 => unfold maxLen; omega
   case c4 => omega
   case c5 => simp; omega
   intro g8 cap8 w8 hown8 hgrow8 hat8 _
   have HD : Hid (Ly W s N Ks T Bo (k + 1) (k + 1) (.slice (some ⟨g5, 0, none⟩) (k + 1) cap5) (.slice (some ⟨g8, 0, none⟩) (k + 1) cap8) (fun j => if j = k then b else bk j) w8) := (HC.out.old' ((Old.refl _).alloc _)).bas HM.out.2.2.2.2 (HFc.out.old ((Old.refl _).alloc _)) hvb.out HM.out.2.1 HM.out.2.2.1 HM.out.2.2.2.1 hown8 hgrow8 (by simpa using hat8)
   have HDr : Hid (w8.heap[s]? = some (.cells #[.int .i64 (n : Int), .slice (some ⟨g5, 0, none⟩) (k + 1) cap5, u] 109 (0, 0))) := by
    unfold Hid
    rw [hgrow8.block s (by simp; omega) (fun e => by have := (World.ownsRow.lt HC.out.own _ e.symm).1; omega), Below.heap_alloc _ _ _ (by omega)]
    exact HCr.out
   clear hown8 hgrow8 hat8 HC HCr c2 hs6 HFc
   have q1 : w8.cell? ⟨s, 2, none⟩ = some u := cell_of_row _ _ 2 _ _ (0, 0) HDr.out
   have f1 : w8.frozen? ⟨s, 2, none⟩ = false := zac HDr.out 2
   have HE : Hid (LayS W s n Ks T Bo (k + 1) (.slice (some ⟨g5, 0, none⟩) (k + 1) cap5) (.slice (some ⟨g8, 0, none⟩) (k + 1) cap8) (fun j => if j = k then b else bk j) (w8.setCell ⟨s, 2, none⟩ (.slice (some ⟨g8, 0, none⟩) (k + 1) cap8))) := ⟨by have := HD.out.set 2 (.slice (some ⟨g8, 0, none⟩) (k + 1) cap8); rwa [HNe.out] at this, by have := zaq HDr.out 2 (.slice (some ⟨g8, 0, none⟩) (k + 1) cap8); simpa using this⟩
   clear HD HDr
   go_wp2_with fail
   go_ret
   refine ⟨.slice (some ⟨g5, 0, none⟩) (k + 1) cap5, .slice (some ⟨g8, 0, none⟩) (k + 1) cap8, b, by rw [<- HNe.out]; rfl, ?_⟩
   rw [<- HBo.out]
   exact HE.out
end
section
open Go.RowKit
def hidI (Q : Int) (F : NI) (v : Int) (T : NI) : Nat -> Int
 | 0 => v
 | i + 1 => addI (mulI (hidI Q F v T i) (F (i + 1)) Q) (T (i + 1)) Q
theorem hid_u64 {Q v : Int} (hv : U64 v) (F T : NI) : ∀ i, U64 (hidI Q F v T i)
 | 0 => hv
 | _ + 1 => zba _ _ _
def bakI (Q : Int) (B : NI) (R : NN) (w : Nat) : Nat -> Int
 | 0 => 0
 | i + 1 => subI (bakI Q B R w i) (mulI (B i) (R i w) Q) Q
theorem zcZ (a b m : Int) : U64 (subI a b m) := ⟨(zem _ _ _).1, Int.le_trans (zem _ _ _).2 (by decide)⟩
theorem bak_u64 (Q : Int) (B : NI) (R : NN) (w : Nat) : ∀ i, U64 (bakI Q B R w i)
 | 0 => ⟨by show (0 : Int) <= 0; omega, by show (0 : Int) <= _; omega⟩
 | _ + 1 => zcZ _ _ _
theorem slast_any (P Q G H : Int) (a : OA) (n cap : Nat) (b1 : OA) (m c1 : Nat) (F : NI) (v0 : Int) (b2 : OA) (m2 c2 : Nat) (T : NI) (w : World) (m0 : 0 < m) (mm : m <= 80) (h2 : m <= m2) (hv : U64 v0) (h : FacsIn w b1 m F) (hT : FacsIn w b2 m2 T) :
  Calls prog 75 #[gv P Q G H a n cap, .slice b1 m c1, .int .u64 v0, .slice b2 m2 c2] w (Ret w (.int .u64 (hidI Q F v0 T (m - 1)))) := by
 have HF : Hid (FacsIn w b1 m F) := h
 have HTT : Hid (FacsIn w b2 m2 T) := hT
 have HZ := lain1 w (gc P Q G H a n cap) 25
 have HG0 := fun w' ho => (HZ.then (W' := w') ho).row 0 (by simp)
 have HW0 : Hid (Old w (w.alloc (.cells (gc P Q G H a n cap) 25))) := HZ.old
 clear HZ h hT
 go_enter func75, ntmps75
 go_upto_region 1 with fail
 generalize w.alloc (.cells (gc P Q G H a n cap) 25) = W at *
 have HG : Hid (∀ wx, Old W wx -> wx.heap[w.heap.size]? = some (.cells (gc P Q G H a n cap) 25 (0, 0))) := HG0
 clear HG0
 go_upto_region 3 with fail
 go_loopw [9, 10] (fun v iv wx => ∃ i : Nat, iv = .int .i64 ((i + 1 : Nat) : Int) /\ i + 1 <= m /\ v = .int .u64 (hidI Q F v0 T i) /\ Hid (Old W wx)) (fun _ iv _ => m - (intOf iv).toNat)
 case atStart => exact ⟨0, rfl, by omega, rfl, Old.refl _⟩
 case round =>
  obtain ⟨i, rfl, hi, rfl, HO⟩ := hrel
  by_cases hlt : i + 1 < m
  ·rcases HF.out with h0 | ⟨bx, ox, rfl, _, hrx⟩
   ·omega
   rcases HTT.out with h0 | ⟨by_, oy, rfl, _, hry⟩
   ·omega
   have HA : ∀ wx, Old wr wx -> wx.cell? ⟨bx, ox + (i + 1), none⟩ = some (.int .u64 (F (i + 1))) := fun wx hx => ((HW0.out.trans HO.out).trans hx).cellOf (hrx (i + 1) hlt).1
   have HB : ∀ wx, Old wr wx -> wx.cell? ⟨by_, oy + (i + 1), none⟩ = some (.int .u64 (T (i + 1))) := fun wx hx => ((HW0.out.trans HO.out).trans hx).cellOf (hry (i + 1) (by omega)).1
   have HGr : ∀ wx, Old wr wx -> wx.heap[w.heap.size]? = some (.cells (gc P Q G H a n cap) 25 (0, 0)) := fun wx hx => HG.out _ (HO.out.trans hx)
   have HAu : Hid (U64 (F (i + 1))) := (hrx (i + 1) hlt).2
   have HBu : Hid (U64 (T (i + 1))) := (hry (i + 1) (by omega)).2
   clear hrx hry
   go_upto_region 5 with fail
   refine zaa 15 [.k (.int .u64 (hidI Q F v0 T i)), .k (.slice (some ⟨bx, ox, none⟩) m c1), .k (.int .i64 ((i + 1 : Nat) : Int)), .k (.pointer (some ⟨bx, ox + (i + 1), none⟩)), .k (.int .u64 (F (i + 1))), .k (.pointer (some ⟨w.heap.size, 1, none⟩)), .k (.int .u64 Q), .k (.int .u64 (mulI (hidI Q F v0 T i) (F (i + 1)) Q)), .k (.slice (some ⟨by_, oy, none⟩) m2 c2), .k (.int .i64 ((i + 1 : Nat) : Int)), .k (.pointer (some ⟨by_, oy + (i + 1), none⟩)), .k (.int .u64 (T (i + 1))), .k (.pointer (some ⟨w.heap.size, 1, none⟩)), .k (.int .u64 Q), .k (.int .u64 (hidI Q F v0 T (i + 1)))] (Old wr) (by kernel_rfl) (by kernel_rfl) rfl ((Old.refl _).drew) ?st ?_
   case st =>
    refine .c stp <| .c stp <| .c stp <| .c (sti (n := m) (c := c1) (i := i + 1) hlt underlying29) <| .c (stl underlying22 HA) <| .c stp <| .c (stf 1 underlying22 HGr) <| .c (stK old_R func72 (fun wx _ => zdb _ _ Q (hid_u64 hv F T i) HAu.out wx)) <| .c stp <| .c stp <| .c (sti (n := m2) (c := c2) (i := i + 1) (by omega) underlying29) <| .c (stl underlying22 HB) <| .c stp <| .c (stf 1 underlying22 HGr) <| .c (stK old_R func71 (fun wx _ => sadd_any _ _ Q (zaI _ _ _) HBu.out wx)) .n
   intro t wx hR hk
   simp only [fill, Ent.val, List.set_cons_zero, List.set_cons_succ, List.drop_succ_cons, List.drop_zero, List.drop_nil]
   have HO2 : Hid (Old W wx) := HO.out.trans hR
   clear hR hk HA HB HGr
   go_wp2_with fail
   go_roundw
   case rel => exact ⟨i + 1, by simp, by omega, rfl, HO2⟩
   case measure => simp [intOf]; omega
  ·obtain ⟨q, rfl⟩ : ∃ q, m = q + 1 := ⟨m - 1, by omega⟩
   have he : q = i := by omega
   subst he
   go_wp2_with fail
   go_ret
   exact ⟨rfl, HW0.out.trans HO.out⟩
theorem sback_any (P Q G H : Int) (a : OA) (n cap : Nat) (b1 : OA) (m c1 : Nat) (B : NI) (b2 : OA) (m2 c2 : Nat) (Rh : NN) (w : World) (mm : m <= 80) (h2 : m <= m2) (h : FacsIn w b1 m B) (hR0 : RhoIn w b2 m2 Rh) :
  Calls prog 76 #[gv P Q G H a n cap, .slice b1 m c1, .slice b2 m2 c2] w (GivF w 3 (fun k => bakI Q B Rh k m)) := by
 have HB : Hid (FacsIn w b1 m B) := h
 have HRh : Hid (RhoIn w b2 m2 Rh) := hR0
 have HZ := lain1 w (gc P Q G H a n cap) 25
 have HG0 := fun w' ho => (HZ.then (W' := w') ho).row 0 (by simp)
 have HW0 : Hid (Old w (w.alloc (.cells (gc P Q G H a n cap) 25))) := HZ.old
 clear HZ h hR0
 obtain ⟨F, hF⟩ : ∃ F : Nat -> Nat -> Int, F = fun i k => bakI Q B Rh k i := ⟨_, rfl⟩
 have HFe : Hid (∀ i k, F i k = bakI Q B Rh k i) := fun i k => by rw [hF]
 have e0 : (fun k => bakI Q B Rh k m) = F m := by rw [hF]
 rw [e0]
 clear e0 hF
 have hmk : ∀ wx, (Instr.makeSlice 29 (.int .i64 3) (.int .i64 3)).run prog wx = .ok (.slice (some ⟨wx.heap.size, 0, none⟩) 3 3) (wx.alloc (.cells (madeCells #[Value.int .u64 0] 3) 22)) := zaP 3 (by omega)
 go_enter func76, ntmps76
 go_upto_region 1 with fail
 generalize w.alloc (.cells (gc P Q G H a n cap) 25) = W at *
 have HG : Hid (∀ wx, Old W wx -> wx.heap[w.heap.size]? = some (.cells (gc P Q G H a n cap) 25 (0, 0))) := HG0
 clear HG0
 go_upto_region 2 with fail
 have HFu := zaC W 3 (F m)
 have HW1 : Hid (Old W (W.alloc (.cells (madeCells #[Value.int .u64 0] 3) 22))) := (Old.refl W).alloc _
 generalize W.alloc (.cells (madeCells #[Value.int .u64 0] 3) 22) = W1 at *
 go_upto_region 3 with fail
 go_loopw [14] (fun iv wx => ∃ q : Nat, iv = .int .i64 (q : Int) /\ q <= 3 /\ Hid (Full wx W.heap.size 3 (upTo q (F m))) /\ Hid (Old W wx)) (fun iv _ => 3 - (intOf iv).toNat)
 case atStart => exact ⟨0, rfl, Nat.zero_le _, HFu, HW1⟩
 case round =>
  obtain ⟨q, rfl, hq, HN, HO⟩ := hrel
  by_cases hlt : q < 3
  ·have k1 : (q : Int) < 3 := by omega
   have HS0 : Hid (Full wr W.heap.size 3 (fun k => if k = q then F 0 q else upTo q (F m) k)) := HN.out.congr fun k hk => by
    by_cases hkq : k = q
    ·subst hkq
     rw [if_pos rfl, HFe.out]
     simp [upTo, bakI]
    ·rw [if_neg hkq]
   clear HN
   go_upto_region 6 with fail
   go_loopw [19] (fun iv wx => ∃ i : Nat, iv = .int .i64 (i : Int) /\ i <= m /\ Hid (Full wx W.heap.size 3 (fun k => if k = q then F i q else upTo q (F m) k)) /\ Hid (Old W wx)) (fun iv _ => m - (intOf iv).toNat)
   case atStart => exact ⟨0, rfl, Nat.zero_le _, HS0, HO⟩
   case round =>
    obtain ⟨i, rfl, hi, HN, HO⟩ := hrel
    by_cases hil : i < m
    ·rcases HB.out with h0 | ⟨bx, ox, hqx, _, hrx⟩
     ·omega
     rcases HRh.out with h0 | ⟨by_, oy, hqy, _, hry⟩
     ·omega
     have cx := (HW0.out.trans HO.out).cellOf (hrx i hil).1
     have HBu : Hid (U64 (B i)) := (hrx i hil).2
     have HRu : Hid (U64 (Rh i q)) := (hry i (by omega) q hlt).2
     have HRc : Hid (∀ wx, Old wr wx -> wx.cell? ⟨by_, oy + i * 3 + q, none⟩ = some (.int .u64 (Rh i q))) := fun wx hx => ((HW0.out.trans HO.out).trans hx).cellOf (hry i (by omega) q hlt).1
     have HLc : Hid (∀ wx, Old wr wx -> wx.cell? ⟨W.heap.size, q, none⟩ = some (.int .u64 (F i q))) := fun wx hx => by have := (HN.out.old hx).cell q hlt; rwa [if_pos rfl] at this
     have HGr : Hid (∀ wx, Old wr wx -> wx.heap[w.heap.size]? = some (.cells (gc P Q G H a n cap) 25 (0, 0))) := fun wx hx => HG.out _ (HO.out.trans hx)
     clear hrx hry
     subst hqx hqy
     go_upto_region 8 with fail
     refine zaa 20 [.k (.slice (some ⟨W.heap.size, 0, none⟩) 3 3), .k (.int .i64 (q : Int)), .k (.slice (some ⟨W.heap.size, 0, none⟩) 3 3), .k (.int .i64 (q : Int)), .k (.pointer (some ⟨W.heap.size, q, none⟩)), .k (.int .u64 (F i q)), .k (.int .u64 (B i)), .k (.slice (some ⟨by_, oy, none⟩) m2 c2), .k (.int .i64 (i : Int)), .k (.int .i64 (q : Int)), .k (.pointer (some ⟨by_, oy + i * 3, none⟩)), .k (.pointer (some ⟨by_, oy + i * 3 + q, none⟩)), .k (.int .u64 (Rh i q)), .k (.pointer (some ⟨w.heap.size, 1, none⟩)), .k (.int .u64 Q), .k (.int .u64 (mulI (B i) (Rh i q) Q)), .k (.pointer (some ⟨w.heap.size, 1, none⟩)), .k (.int .u64 Q), .k (.int .u64 (F (i + 1) q)), .k (.pointer (some ⟨W.heap.size, q, none⟩))] (Old wr) (by kernel_rfl) (by kernel_rfl) rfl ((Old.refl _).drew) ?st ?_
     case st =>
      refine .c stp <| .c stp <| .c stp <| .c stp <| .c (sti0 (n := 3) (c := 3) hlt underlying29) <| .c (stl underlying22 HLc.out) <| .c stp <| .c stp <| .c stp <| .c stp <| .c (stj (n := m2) (c := c2) 3 (by omega) underlying28) <| .c (sai hlt underlying63) <| .c (stl underlying22 HRc.out) <| .c stp <| .c (stf 1 underlying22 HGr.out) <| .c (stK old_R func72 (fun wx _ => zdb _ _ Q HBu.out HRu.out wx)) <| .c stp <| .c (stf 1 underlying22 HGr.out) <| .c (stK old_R func108 (fun wx _ => by have h := ssub_any (F i q) (mulI (B i) (Rh i q) Q) Q (by rw [HFe.out]; exact bak_u64 Q B Rh q i) (zaI _ _ _) wx; rwa [show subI (F i q) (mulI (B i) (Rh i q) Q) Q = F (i + 1) q by rw [HFe.out, HFe.out]; rfl] at h)) <| .c (sti0 (n := 3) (c := 3) hlt underlying29) .n
     intro t wx hR hk
     simp only [fill, Ent.val, List.set_cons_zero, List.set_cons_succ, List.drop_succ_cons, List.drop_zero, List.drop_nil]
     have HNx := HN.out.old hR
     have q0 := HNx.cell q hlt
     have f0 := HNx.free q
     have HG1 : Hid (Full (wx.setCell ⟨W.heap.size, q, none⟩ (.int .u64 (F (i + 1) q))) W.heap.size 3 (fun k => if k = q then F (i + 1) q else upTo q (F m) k)) := (HNx.set q _).congr fun k hk => by
      by_cases hkq : k = q
      ·rw [if_pos hkq, if_pos hkq]
      ·rw [if_neg hkq, if_neg hkq, if_neg hkq]
     have HG2 : Hid (Old W (wx.setCell ⟨W.heap.size, q, none⟩ (.int .u64 (F (i + 1) q)))) := (HO.out.trans hR).setCell (Nat.le_refl _) _
     clear hR hk HNx HRc HLc HGr
     go_wp2_with fail
     go_roundw
     case rel => exact ⟨i + 1, zab i, by omega, HG1, HG2⟩
     case measure => simp [intOf]; omega
    ·have he : m = i := by omega
     subst he
     have HD : Hid (Full wr W.heap.size 3 (upTo (q + 1) (F m))) := HN.out.congr fun k hk => by
      by_cases hkq : k = q
      ·subst hkq
       simp [upTo]
      ·rw [if_neg hkq]
       unfold upTo
       by_cases h : k < q
       ·rw [if_pos h, if_pos (by omega)]
       ·rw [if_neg h, if_neg (by omega)]
     go_wp2_with fail
     go_roundw
     case rel => exact ⟨q + 1, zab q, by omega, HD, HO⟩
     case measure => simp [intOf]; omega
  ·have he : q = 3 := by omega
   subst he
   have HD : Hid (Full wr W.heap.size 3 (F m)) := HN.out.done
   go_wp2_with fail
   go_ret
   exact ⟨HW0.out.trans HO.out, W.heap.size, HW0.out.size, rfl, HD.out⟩
end
section
open Go.RowKit
abbrev dv (bρ : OA) (nρ cρ : Nat) (bR : OA) (nR cR : Nat) (bS : OA) (nS cS : Nat) (bT : OA) (nT cT : Nat) (bD : OA) (nD cD : Nat) : Value := .agg #[.slice bρ nρ cρ, .slice bR nR cR, .slice bS nS cS, .slice bT nT cT, .slice bD nD cD]
abbrev dvc (bρ : OA) (nρ cρ : Nat) (bR : OA) (nR cR : Nat) (bS : OA) (nS cS : Nat) (bT : OA) (nT cT : Nat) (bD : OA) (nD cD : Nat) : Array Value := #[.slice bρ nρ cρ, .slice bR nR cR, .slice bS nS cS, .slice bT nT cT, .slice bD nD cD]
def thiI (P Q G H X Y Z : Int) (A B O T : NI) : Nat -> Int
 | 0 => bigI P Q G (A 0) (B 0) Y Z
 | i + 1 => mulI (expI P Q (thiI P Q G H X Y Z A B O T i) (facI Q X Y Z (O (i + 1) + 1))) (expI P Q H (T (i + 1))) P
theorem zcc (P Q G H X Y Z : Int) (A B O T : NI) : ∀ i, U64 (thiI P Q G H X Y Z A B O T i)
 | 0 => u64_over _ _ _
 | _ + 1 => zaI _ _ _
theorem u64_fac (Q X Y Z j : Int) : U64 (facI Q X Y Z j) := zcZ _ _ _
theorem zdi (q : Nat) (h : q <= 1000) : Value.int .i64 (IntKind.i64.wrap (((q + 1 : Nat) : Int) - 1)) = .int .i64 (q : Int) := by
 rw [IntKind.wrap_i64]
 congr 1
 omega
theorem sthird_any (P Q G H : Int) (a : OA) (n cap : Nat) (bo : OA) (no co : Nat) (O : NI) (ba : OA) (na ca : Nat) (A : NI) (X : Int) (bb : OA) (nb cb : Nat) (B : NI) (Y Z : Int) (bp : OA) (np cp : Nat) (bρ : OA) (nρ cρ : Nat) (bR : OA) (nR cR : Nat) (bS : OA) (nS cS : Nat) (bT : OA) (nT cT : Nat) (T : NI) (bD : OA) (nD cD : Nat) (w : World) (h4 : Four P Q G H) (hr : Righ P Q G) (hX : U64 X) (hY : U64 Y) (hZ : U64 Z) (mo : no <= 80) (ma : na <= 80) (mb : nb <= 80) (mT : nT <= 80) (hO : IntsIn w bo no O) (hA : FacsIn w ba na A) (hB : FacsIn w bb nb B) (hT : FacsIn w bT nT T) :
  Calls prog 24 #[gv P Q G H a n cap, .slice bo no co, tk ba na ca X bb nb cb Y Z bp np cp, dv bρ nρ cρ bR nR cR bS nS cS bT nT cT bD nD cD] w (GivL w (if ordB no O && (decide (na = no) && (decide (nb = no) && decide (nT = no))) then no else 0) (thiI P Q G H X Y Z A B O T)) := by
 have HX := hid hT
 have HZ := lain3 w (gc P Q G H a n cap) (tkc ba na ca X bb nb cb Y Z bp np cp) (dvc bρ nρ cρ bR nR cR bS nS cS bT nT cT bD nD cD) 25 41 31
 have HG0 := fun w' ho => (HZ.then (W' := w') ho).row 0 (by simp)
 have HT0 := fun w' ho => (HZ.then (W' := w') ho).row 1 (by simp)
 have HD0 := fun w' ho => (HZ.then (W' := w') ho).row 2 (by simp)
 have HW0 := hid HZ.old
 have HOr := hid fun wx (ho : Old w wx) => zbW bo no co O wx (by omega) (hO.old ho)
 have hneg : ordB no O = false ∨ (ordB no O = true /\ na ≠ no) ∨ (ordB no O = true /\ na = no /\ nb ≠ no) ∨ (ordB no O = true /\ na = no /\ nb = no /\ nT ≠ no) ∨ (ordB no O = true /\ na = no /\ nb = no /\ nT = no) := by
  cases ordB no O
  ·exact Or.inl rfl
  ·by_cases h1 : na = no
   ·by_cases h2 : nb = no
    ·by_cases h3 : nT = no
     ·exact Or.inr (Or.inr (Or.inr (Or.inr ⟨rfl, h1, h2, h3⟩)))
     ·exact Or.inr (Or.inr (Or.inr (Or.inl ⟨rfl, h1, h2, h3⟩)))
    ·exact Or.inr (Or.inr (Or.inl ⟨rfl, h1, h2⟩))
   ·exact Or.inr (Or.inl ⟨rfl, h1⟩)
 rcases hneg with ho | ⟨ho, h1⟩ | ⟨ho, rfl, h2⟩ | ⟨ho, rfl, rfl, h3⟩ | ⟨ho, rfl, rfl, rfl⟩
 ·rw [ho] at HOr
  rw [ho, Bool.false_and, if_neg (by simp)]
  clear ho hO hA hB hT h4 hr
  go_enter func24, ntmps24
  go_upto_region 1 with fail
  generalize ((w.alloc (.cells (gc P Q G H a n cap) 25)).alloc (.cells (tkc ba na ca X bb nb cb Y Z bp np cp) 41)).alloc (.cells (dvc bρ nρ cρ bR nR cR bS nS cS bT nT cT bD nD cD) 31) = W at *
  have d0 := cell_of_row _ _ 0 _ _ (0, 0) (HT0 _ (Old.refl _))
  have d2 := cell_of_row _ _ 2 _ _ (0, 0) (HT0 _ (Old.refl _))
  have e3 := cell_of_row _ _ 3 _ _ (0, 0) (HD0 _ (Old.refl _))
  clear HG0
  go_wp2_with (go_at_call 50; refine (HOr.out _ HW0.out).mono ?_; rintro e w1 ⟨rfl, o1⟩; have d0 := cell_of_row _ _ 0 _ _ (0, 0) (HT0 _ o1); have d2 := cell_of_row _ _ 2 _ _ (0, 0) (HT0 _ o1); have e3 := cell_of_row _ _ 3 _ _ (0, 0) (HD0 _ o1))
  go_ret
  exact zaF _ (HW0.out.trans o1)
 ·rw [ho] at HOr
  have k1 : ((na : Int) != (no : Int)) = true := by simp; omega
  have k2 : ¬ (na : Int) = (no : Int) := by omega
  rw [show (ordB no O && (decide (na = no) && (decide (nb = no) && decide (nT = no)))) = false by simp [h1], if_neg (by simp)]
  clear ho hO hA hB hT h4 hr
  go_enter func24, ntmps24
  go_upto_region 1 with fail
  generalize ((w.alloc (.cells (gc P Q G H a n cap) 25)).alloc (.cells (tkc ba na ca X bb nb cb Y Z bp np cp) 41)).alloc (.cells (dvc bρ nρ cρ bR nR cR bS nS cS bT nT cT bD nD cD) 31) = W at *
  have d0 := cell_of_row _ _ 0 _ _ (0, 0) (HT0 _ (Old.refl _))
  have d2 := cell_of_row _ _ 2 _ _ (0, 0) (HT0 _ (Old.refl _))
  have e3 := cell_of_row _ _ 3 _ _ (0, 0) (HD0 _ (Old.refl _))
  clear HG0
  go_wp2_with (go_at_call 50; refine (HOr.out _ HW0.out).mono ?_; rintro e w1 ⟨rfl, o1⟩; have d0 := cell_of_row _ _ 0 _ _ (0, 0) (HT0 _ o1); have d2 := cell_of_row _ _ 2 _ _ (0, 0) (HT0 _ o1); have e3 := cell_of_row _ _ 3 _ _ (0, 0) (HD0 _ o1))
  go_ret
  exact zaF _ (HW0.out.trans o1)
 ·rw [ho] at HOr
  have k1 : ((nb : Int) != (na : Int)) = true := by simp; omega
  have k2 : ¬ (nb : Int) = (na : Int) := by omega
  rw [show (ordB na O && (decide (na = na) && (decide (nb = na) && decide (nT = na)))) = false by simp [h2], if_neg (by simp)]
  clear ho hO hA hB hT h4 hr
  go_enter func24, ntmps24
  go_upto_region 1 with fail
  generalize ((w.alloc (.cells (gc P Q G H a n cap) 25)).alloc (.cells (tkc ba na ca X bb nb cb Y Z bp np cp) 41)).alloc (.cells (dvc bρ nρ cρ bR nR cR bS nS cS bT nT cT bD nD cD) 31) = W at *
  have d0 := cell_of_row _ _ 0 _ _ (0, 0) (HT0 _ (Old.refl _))
  have d2 := cell_of_row _ _ 2 _ _ (0, 0) (HT0 _ (Old.refl _))
  have e3 := cell_of_row _ _ 3 _ _ (0, 0) (HD0 _ (Old.refl _))
  clear HG0
  go_wp2_with (go_at_call 50; refine (HOr.out _ HW0.out).mono ?_; rintro e w1 ⟨rfl, o1⟩; have d0 := cell_of_row _ _ 0 _ _ (0, 0) (HT0 _ o1); have d2 := cell_of_row _ _ 2 _ _ (0, 0) (HT0 _ o1); have e3 := cell_of_row _ _ 3 _ _ (0, 0) (HD0 _ o1))
  go_ret
  exact zaF _ (HW0.out.trans o1)
 ·rw [ho] at HOr
  have k1 : ((nT : Int) != (nb : Int)) = true := by simp; omega
  have k2 : ¬ (nT : Int) = (nb : Int) := by omega
  rw [show (ordB nb O && (decide (nb = nb) && (decide (nb = nb) && decide (nT = nb)))) = false by simp [h3], if_neg (by simp)]
  clear ho hO hA hB hT h4 hr
  go_enter func24, ntmps24
  go_upto_region 1 with fail
  generalize ((w.alloc (.cells (gc P Q G H a n cap) 25)).alloc (.cells (tkc ba nb ca X bb nb cb Y Z bp np cp) 41)).alloc (.cells (dvc bρ nρ cρ bR nR cR bS nS cS bT nT cT bD nD cD) 31) = W at *
  have d0 := cell_of_row _ _ 0 _ _ (0, 0) (HT0 _ (Old.refl _))
  have d2 := cell_of_row _ _ 2 _ _ (0, 0) (HT0 _ (Old.refl _))
  have e3 := cell_of_row _ _ 3 _ _ (0, 0) (HD0 _ (Old.refl _))
  clear HG0
  go_wp2_with (go_at_call 50; refine (HOr.out _ HW0.out).mono ?_; rintro e w1 ⟨rfl, o1⟩; have d0 := cell_of_row _ _ 0 _ _ (0, 0) (HT0 _ o1); have d2 := cell_of_row _ _ 2 _ _ (0, 0) (HT0 _ o1); have e3 := cell_of_row _ _ 3 _ _ (0, 0) (HD0 _ o1))
  go_ret
  exact zaF _ (HW0.out.trans o1)
 ·rw [ho] at HOr
  have hP := zaA.1 ho
  rw [show (ordB nT O && (decide (nT = nT) && (decide (nT = nT) && decide (nT = nT)))) = true by simp [ho], if_pos rfl]
  clear ho
  have HB0 : Hid (∀ i, i < nT -> 0 <= O i /\ O i < 1000) := fun i hi => by have := hP.2.1 i hi; omega
  have m0 : 0 < nT := hP.1
  have HCo := hid fun wx (hx : Old w wx) => zbG bo nT co O wx mT (hO.old hx) HB0.out
  obtain ⟨F, hF⟩ : ∃ F : Nat -> Int, F = thiI P Q G H X Y Z A B O T := ⟨_, rfl⟩
  have HF0 : Hid (F 0 = bigI P Q G (A 0) (B 0) Y Z) := by rw [hF]; exact rfl
  obtain ⟨K, hK0⟩ : ∃ K : Nat -> Int, K = fun i => O i + 1 := ⟨_, rfl⟩
  have HFs : Hid (∀ i, F (i + 1) = mulI (expI P Q (F i) (facI Q X Y Z (K (i + 1)))) (expI P Q H (T (i + 1))) P) := fun i => by rw [hF, hK0]; exact rfl
  have HFu : Hid (∀ i, U64 (F i)) := fun i => by rw [hF]; exact zcc _ _ _ _ _ _ _ _ _ _ _ i
  have HKu : Hid (∀ i, i < nT -> U64 (K i)) := fun i hi => by rw [hK0]; have := HB0.out i hi; exact ⟨by show 0 <= O i + 1; omega, by show O i + 1 <= _; omega⟩
  have HTu : Hid (∀ i, i < nT -> U64 (T i)) := hT.u64
  have HJ : Hid (∀ wx, Old w wx -> Calls prog 63 #[gv P Q G H a n cap, tk ba nT ca X bb nT cb Y Z bp np cp, .int .i64 0] wx (Ret wx (.int .u64 (F 0)))) := fun wx hx => by rw [HF0.out]; exact zcX P Q G H a n cap ba nT ca A X bb nT cb B Y Z bp np cp 0 wx h4 hr hY hZ (hA.old hx) (hB.old hx) m0 m0
  have HEx : Hid (∀ i wx, i + 1 < nT -> Calls prog 65 #[gv P Q G H a n cap, .int .u64 (F i), .int .u64 (facI Q X Y Z (K (i + 1)))] wx (Ret wx (.int .u64 (expI P Q (F i) (facI Q X Y Z (K (i + 1))))))) := fun i wx _ => za9 P Q G H (F i) _ a n cap wx h4 hr (HFu.out i).1 (HFu.out i).2 (u64_fac _ _ _ _ _).1 (u64_fac _ _ _ _ _).2
  have HEh := hid fun i wx (hi : i < nT) => za9 P Q G H H (T i) a n cap wx h4 hr h4.h0 h4.h1 (HTu.out i hi).1 (HTu.out i hi).2
  rw [<- hF]
  rw [<- hK0] at HCo
  have H4 := hid h4
  have HRi := hid hr
  clear hF hK0 hP HB0 hO hA hB hT h4 hr HF0
  have hmk := zaP nT mT
  go_enter func24, ntmps24
  go_upto_region 1 with fail
  generalize ((w.alloc (.cells (gc P Q G H a n cap) 25)).alloc (.cells (tkc ba nT ca X bb nT cb Y Z bp np cp) 41)).alloc (.cells (dvc bρ nρ cρ bR nR cR bS nS cS bT nT cT bD nD cD) 31) = W at *
  have HG : Hid (∀ wx, Old W wx -> wx.heap[w.heap.size]? = some (.cells (gc P Q G H a n cap) 25 (0, 0))) := HG0
  have HT : Hid (∀ wx, Old W wx -> wx.heap[w.heap.size + 1]? = some (.cells (tkc ba nT ca X bb nT cb Y Z bp np cp) 41 (0, 0))) := HT0
  have HD : Hid (∀ wx, Old W wx -> wx.heap[w.heap.size + 1 + 1]? = some (.cells (dvc bρ nρ cρ bR nR cR bS nS cS bT nT cT bD nD cD) 31 (0, 0))) := HD0
  clear HG0 HT0 HD0
  have d0 := cell_of_row _ _ 0 _ _ (0, 0) (HT.out _ (Old.refl _))
  have d2 := cell_of_row _ _ 2 _ _ (0, 0) (HT.out _ (Old.refl _))
  have e3 := cell_of_row _ _ 3 _ _ (0, 0) (HD.out _ (Old.refl _))
  go_upto_region 4 with (go_at_call 50; refine (HOr.out _ HW0.out).mono ?_; rintro e w1 ⟨rfl, o1⟩; have d0 := cell_of_row _ _ 0 _ _ (0, 0) (HT.out _ o1); have d2 := cell_of_row _ _ 2 _ _ (0, 0) (HT.out _ o1); have e3 := cell_of_row _ _ 3 _ _ (0, 0) (HD.out _ o1))
  clear d0 d2 e3
  go_upto_region 5 with (go_at_call 58; refine (HCo.out _ (HW0.out.trans o1)).mono ?_; rintro e w2 ⟨o2, bk, hbk, rfl, hful⟩; have HK2 : Hid (Full w2 bk nT K) := hful; have HW2 : Hid (Old W w2) := o1.trans o2; clear hful)
  clear d0 d2 e3
  go_upto_region 6 with fail
  have HFz := zaC w2 nT F
  have HW3 : Hid (Old W (w2.alloc (.cells (madeCells #[Value.int .u64 0] nT) 22))) := HW2.out.alloc _
  have HK3 : Hid (Full (w2.alloc (.cells (madeCells #[Value.int .u64 0] nT) 22)) bk nT K) := HK2.out.old ((Old.refl _).alloc _)
  have hs2 := HW2.out.size
  have hne : bk ≠ w2.heap.size := by have := HK2.out.lt; omega
  generalize w2.alloc (.cells (madeCells #[Value.int .u64 0] nT) 22) = W3 at *
  generalize w2.heap.size = bl at *
  have g0 := HG.out _ HW3.out
  have t0 := HT.out _ HW3.out
  have i0 : (0 : Int) < (nT : Int) := by omega
  have dd0 := cell_of_row _ _ 0 _ _ (0, 0) g0
  have dd1 := cell_of_row _ _ 1 _ _ (0, 0) g0
  have dd2 := cell_of_row _ _ 2 _ _ (0, 0) g0
  have dd3 := cell_of_row _ _ 3 _ _ (0, 0) g0
  have dd4 := cell_of_row _ _ 4 _ _ (0, 0) g0
  have tt0 := cell_of_row _ _ 0 _ _ (0, 0) t0
  have tt1 := cell_of_row _ _ 1 _ _ (0, 0) t0
  have tt2 := cell_of_row _ _ 2 _ _ (0, 0) t0
  have tt3 := cell_of_row _ _ 3 _ _ (0, 0) t0
  have tt4 := cell_of_row _ _ 4 _ _ (0, 0) t0
  have tt5 := cell_of_row _ _ 5 _ _ (0, 0) t0
  go_upto_region 7 with (go_at_call 63; refine (HJ.out _ (HW0.out.trans HW3.out)).mono ?_; rintro e w4 ⟨rfl, o4⟩; have HF4 : Hid (Full w4 bl nT (upTo 0 F)) := HFz.old o4; have q0 := HF4.out.cell 0 m0; have f0 := HF4.out.free 0)
  have HF5 : Hid (Full (w4.setCell ⟨bl, 0, none⟩ (.int .u64 (F 0))) bl nT (upTo (0 + 1) F)) := HF4.out.next
  have HK5 : Hid (Full (w4.setCell ⟨bl, 0, none⟩ (.int .u64 (F 0))) bk nT K) := (HK3.out.old o4).other (p := ⟨bl, 0, none⟩) hne _
  have HW5 : Hid (Old W (w4.setCell ⟨bl, 0, none⟩ (.int .u64 (F 0)))) := (HW3.out.trans o4).setCell hs2 _
  generalize w4.setCell ⟨bl, 0, none⟩ (.int .u64 (F 0)) = W5 at *
  clear g0 t0 dd0 dd1 dd2 dd3 dd4 tt0 tt1 tt2 tt3 tt4 tt5 q0 f0 o4 HF4 HFz
  go_upto_region 8 with fail
  go_loopw [12] (fun iv wx => ∃ i : Nat, iv = .int .i64 ((i + 1 : Nat) : Int) /\ i + 1 <= nT /\ Hid (Full wx bl nT (upTo (i + 1) F)) /\ Hid (Full wx bk nT K) /\ Hid (Old W wx)) (fun iv _ => nT - (intOf iv).toNat)
  case atStart => exact ⟨0, rfl, by omega, HF5, HK5, HW5⟩
  case round =>
   obtain ⟨i, rfl, hi1, HN, HKx, HW⟩ := hrel
   by_cases hlt : i + 1 < nT
   ·rcases HX.out with h0 | ⟨bx, ox, hqx, _, hrx⟩
    ·omega
    have HTc := hid fun wx (hx : Old wr wx) => ((HW0.out.trans HW.out).trans hx).cellOf (hrx (i + 1) hlt).1
    have HLc : Hid (∀ wx, Old wr wx -> wx.cell? ⟨bl, i, none⟩ = some (.int .u64 (F i))) := fun wx hx => by have := (HN.out.old hx).cell i (by omega); rwa [show upTo (i + 1) F i = F i by simp [upTo]] at this
    have HKc := hid fun wx (hx : Old wr wx) => (HKx.out.old hx).cell (i + 1) hlt
    have HGr := hid fun wx (hx : Old wr wx) => HG.out _ (HW.out.trans hx)
    have HTr := hid fun wx (hx : Old wr wx) => HT.out _ (HW.out.trans hx)
    have HDr : Hid (∀ wx, Old wr wx -> wx.heap[w.heap.size + 1 + 1]? = some (.cells (dvc bρ nρ cρ bR nR cR bS nS cS (some ⟨bx, ox, none⟩) nT cT bD nD cD) 31 (0, 0))) := fun wx hx => by have := HD.out _ (HW.out.trans hx); rwa [hqx] at this
    clear hrx
    subst hqx
    go_upto_region 10 with fail
    refine zaa 29 [.k (.slice (some ⟨bl, 0, none⟩) nT nT), .k (.int .i64 ((i + 1 : Nat) : Int)), .k (gv P Q G H a n cap), .k (gv P Q G H a n cap), .k (.slice (some ⟨bl, 0, none⟩) nT nT), .k (.int .i64 ((i + 1 : Nat) : Int)), .k (.int .i64 (i : Int)), .k (.pointer (some ⟨bl, i, none⟩)), .k (.int .u64 (F i)), .k (gv P Q G H a n cap), .k (tk ba nT ca X bb nT cb Y Z bp np cp), .k (.slice (some ⟨bk, 0, none⟩) nT nT), .k (.int .i64 ((i + 1 : Nat) : Int)), .k (.pointer (some ⟨bk, i + 1, none⟩)), .k (.int .u64 (K (i + 1))), .k (.int .u64 (facI Q X Y Z (K (i + 1)))), .k (.int .u64 (expI P Q (F i) (facI Q X Y Z (K (i + 1))))), .k (gv P Q G H a n cap), .k (.pointer (some ⟨w.heap.size, 3, none⟩)), .k (.int .u64 H), .k (.pointer (some ⟨w.heap.size + 1 + 1, 3, none⟩)), .k (.slice (some ⟨bx, ox, none⟩) nT cT), .k (.int .i64 ((i + 1 : Nat) : Int)), .k (.pointer (some ⟨bx, ox + (i + 1), none⟩)), .k (.int .u64 (T (i + 1))), .k (.int .u64 (expI P Q H (T (i + 1)))), two8 W.heap.size (expI P Q (F i) (facI Q X Y Z (K (i + 1)))) (expI P Q H (T (i + 1))), .k (.int .u64 (F (i + 1))), .k (.pointer (some ⟨bl, i + 1, none⟩))] (Old wr) (by kernel_rfl) (by kernel_rfl) rfl ((Old.refl _).drew) ?st ?_
    case st =>
     refine .c stp <| .c stp <| .c (sts underlying25 HGr.out) <| .c (sts underlying25 HGr.out) <| .c stp <| .c stp <| .c (stv (v' := .int .i64 (IntKind.i64.wrap (((i + 1 : Nat) : Int) - 1))) (zdi i (by omega))) <| .c (sti0 (n := nT) (c := nT) (by omega) underlying29) <| .c (stl underlying22 HLc.out) <| .c (sts underlying25 HGr.out) <| .c (sts underlying41 HTr.out) <| .c stp <| .c stp <| .c (sti0 (n := nT) (c := nT) (i := i + 1) hlt underlying29) <| .c (stl underlying22 HKc.out) <| .c (stK old_R func66 (fun wx _ => zcU P Q G H a n cap ba nT ca X bb nT cb Y Z bp np cp _ wx hX hY hZ (HKu.out _ hlt))) <| .c (stK old_R func65 (fun wx _ => HEx.out i wx hlt)) <| .c (sts underlying25 HGr.out) <| .c stp <| .c (stf 3 underlying22 HGr.out) <| .c stp <| .c (stf 3 underlying29 HDr.out) <| .c stp <| .c (sti (n := nT) (c := cT) (i := i + 1) hlt underlying29) <| .c (stl underlying22 HTc.out) <| .c (stK old_R func65 (fun wx _ => HEh.out (i + 1) wx hlt)) <| .c (stm (ob := fun t => .cells #[.int .u64 (expI P Q (F i) (facI Q X Y Z (K (i + 1)))), .int .u64 (expI P Q H (T (i + 1)))] 22) (v := fun s => .slice (some ⟨s, 0, none⟩) 2 2) old_R fun t wx hR hd => ⟨_, rfl, zbH wx W.heap.size 2 [.int .u64 (expI P Q (F i) (facI Q X Y Z (K (i + 1)))), .int .u64 (expI P Q H (T (i + 1)))] (two7 _ _) (HW.out.trans hR).size (by omega) rfl⟩) <| .c (stC (args := fun t => #[gv P Q G H a n cap, t 26]) old_R func64 fun t wx hR hd => ?_) <| .c (sti0 (n := nT) (c := nT) (i := i + 1) hlt underlying29) .n
     obtain ⟨b, e, hN⟩ := hd 26 (by kernel_rfl)
     rw [e] at hN ⊢
     exact (gprod7 P Q G H a n cap _ _ H4.out HRi.out (zaz _ _ _ _) (zaz _ _ _ _) hN).mono fun r w' ⟨h, k⟩ => ⟨_, h, k, by rw [<- HFs.out i]; exact rfl⟩
    intro t wx hR hk
    simp only [fill, Ent.val, two8, List.set_cons_zero, List.set_cons_succ, List.drop_succ_cons, List.drop_zero, List.drop_nil]
    have HNx := hid (HN.out.old hR)
    have HG1 := hid HNx.out.next
    have HKn : Hid (Full (wx.setCell ⟨bl, i + 1, none⟩ (.int .u64 (F (i + 1)))) bk nT K) := (HKx.out.old hR).other (p := ⟨bl, i + 1, none⟩) hne _
    have HG2 : Hid (Old W (wx.setCell ⟨bl, i + 1, none⟩ (.int .u64 (F (i + 1))))) := (HW.out.trans hR).setCell hs2 _
    have q0 := HNx.out.cell (i + 1) hlt
    have f0 := HNx.out.free (i + 1)
    clear hR hk HTc HLc HKc HGr HTr HDr
    go_wp2_with fail
    go_roundw
    case rel => exact ⟨i + 1, by simp, by omega, HG1, HKn, HG2⟩
    case measure => simp [intOf]; omega
   ·obtain ⟨q, rfl⟩ : ∃ q, nT = q + 1 := ⟨nT - 1, by omega⟩
    have he : q = i := by omega
    subst he
    have HDn := hid (HN.out.done.nums (Nat.le_trans HW0.out.size hs2) (by omega))
    go_wp2_with fail
    go_ret
    exact ⟨HW0.out.trans HW.out, _, rfl, HDn.out⟩
end
end Go.Proofs.YtlnmjbbpenhdbaaGreat
