/-
  What the proof needs, part 13.
-/
import Derived.Test.YtlnmjbbpenhdbaaGreatKp11
import Derived.Test.YtlnmjbbpenhdbaaGreatKp12
namespace Go.Proofs.YtlnmjbbpenhdbaaGreat
open Tryz
open List renaming set_cons_zero → Ls0, set_cons_succ → Ls1, drop_succ_cons → Ld1, drop_zero → Ld0, drop_nil → Ldn
open Tryz renaming underlying29 → U29
set_option linter.unusedSimpArgs false
set_option linter.unusedVariables false
set_option maxRecDepth 100000
set_option maxHeartbeats 32000000
section
open Go.RowKit
def drwB (n nR nS nT nD : Nat) : Bool := decide (nR = n) && decide (nS = n) && decide (nT = n) && decide (nD = 7 * n + 3)
theorem zb1 {n nR nS nT nD : Nat} : drwB n nR nS nT nD = true ↔ nR = n /\ nS = n /\ nT = n /\ nD = 7 * n + 3 := by
 unfold drwB
 simp only [Bool.and_eq_true_iff, decide_eq_true_eq, and_assoc]
theorem zbL {p q : Nat} (h : p = q) : Value.bool ((p : Int) == (q : Int)) = .bool true := by subst h; simp
theorem eq_no8 {p q : Nat} (h : ¬ p = q) : Value.bool ((p : Int) == (q : Int)) = .bool false := by
 have : ¬ (p : Int) = (q : Int) := by omega
 simp [this]
theorem zfe (bρ : OA) (nρ cρ : Nat) (bR : OA) (nR cR : Nat) (bS : OA) (nS cS : Nat) (bT : OA) (nT cT : Nat) (bD : OA) (nD cD n : Nat) (w : World) (hn : n <= 8) :
  Calls prog 88 #[dv bρ nρ cρ bR nR cR bS nS cS bT nT cT bD nD cD, .int .i64 (n : Int)] w (Ret w (.bool (drwB n nR nS nT nD))) := by
 have HSz : Hid (∀ wx, Calls prog 125 #[.int .i64 (n : Int)] wx (Ret wx (.int .i64 ((7 * n + 3 : Nat) : Int)))) := fun wx => ssize_any n wx (by omega)
 have HZ := lain1 w (dvc bρ nρ cρ bR nR cR bS nS cS bT nT cT bD nD cD) 31
 have HD0 := fun w' ho => (HZ.then (W' := w') ho).row 0 (by simp)
 have HW0 := hid HZ.old
 clear HZ
 have HD0h := hid HD0
 clear HD0
 by_cases hR : nR = n
 rotate_left
 ·have HV : Hid (drwB n nR nS nT nD = false) := by unfold Hid drwB; simp [hR]
  have HeR := hid (eq_no8 hR)
  clear hR
  go_enter func88, ntmps88
  go_upto_region 1 with fail
  generalize w.alloc (.cells (dvc bρ nρ cρ bR nR cR bS nS cS bT nT cT bD nD cD) 31) = W1 at *
  have HG := hid HD0h
  clear HD0h
  generalize w.heap.size = gb at *
  refine zaa 28 [.k (.pointer (some ⟨gb, 1, none⟩)), .k (.slice bR nR cR), .k (.int .i64 (nR : Nat)), .k (.int .i64 (n : Int)), .k (.bool false), .k (.bool false), .k undef, .k undef, .k undef, .k undef, .k undef, .k (.bool false), .k (.bool false), .k undef, .k undef, .k undef, .k undef, .k undef, .k (.bool false), .k (.bool false), .k undef, .k undef, .k undef, .k undef, .k undef, .k undef, .k (.bool false), .k (.bool false)] (Old W1) (by kernel_rfl) (by kernel_rfl) rfl ((Old.refl _).drew) ?st ?_
  case st =>
   refine .p <| .c (stf 1 U29 HG.out) <| .p <| .p <| .c (stv (v' := .bool (((nR : Nat) : Int) == ((n : Nat) : Int))) HeR.out) <| .p <| .c stn <| .c stn <| .c stn <| .c stn <| .c stn <| .p <| .p <| .c stn <| .c stn <| .c stn <| .c stn <| .c stn <| .p <| .p <| .c stn <| .c stn <| .c stn <| .c stn <| .c stn <| .c stn <| .p <| .c stp .n
  intro t wx hR hk
  simp only [fill, Ent.val, Ls0, Ls1, Ld1, Ld0, Ldn]
  go_wp2_with fail
  go_ret
  exact ⟨by rw [HV.out]; rfl, HW0.out.trans hR⟩
 by_cases hS : nS = n
 rotate_left
 ·have HV : Hid (drwB n nR nS nT nD = false) := by unfold Hid drwB; simp [hS]
  have HeR := hid (zbL hR)
  have HeS := hid (eq_no8 hS)
  clear hR hS
  go_enter func88, ntmps88
  go_upto_region 1 with fail
  generalize w.alloc (.cells (dvc bρ nρ cρ bR nR cR bS nS cS bT nT cT bD nD cD) 31) = W1 at *
  have HG := hid HD0h
  clear HD0h
  generalize w.heap.size = gb at *
  refine zaa 28 [.k (.pointer (some ⟨gb, 1, none⟩)), .k (.slice bR nR cR), .k (.int .i64 (nR : Nat)), .k (.int .i64 (n : Int)), .k (.bool true), .k (.bool true), .k (.pointer (some ⟨gb, 2, none⟩)), .k (.slice bS nS cS), .k (.int .i64 (nS : Nat)), .k (.int .i64 (n : Int)), .k (.bool false), .k (.bool false), .k (.bool false), .k undef, .k undef, .k undef, .k undef, .k undef, .k (.bool false), .k (.bool false), .k undef, .k undef, .k undef, .k undef, .k undef, .k undef, .k (.bool false), .k (.bool false)] (Old W1) (by kernel_rfl) (by kernel_rfl) rfl ((Old.refl _).drew) ?st ?_
  case st =>
   refine .p <| .c (stf 1 U29 HG.out) <| .p <| .p <| .c (stv (v' := .bool (((nR : Nat) : Int) == ((n : Nat) : Int))) HeR.out) <| .p <| .p <| .c (stf 2 U29 HG.out) <| .p <| .p <| .c (stv (v' := .bool (((nS : Nat) : Int) == ((n : Nat) : Int))) HeS.out) <| .p <| .p <| .c stn <| .c stn <| .c stn <| .c stn <| .c stn <| .p <| .p <| .c stn <| .c stn <| .c stn <| .c stn <| .c stn <| .c stn <| .p <| .c stp .n
  intro t wx hR hk
  simp only [fill, Ent.val, Ls0, Ls1, Ld1, Ld0, Ldn]
  go_wp2_with fail
  go_ret
  exact ⟨by rw [HV.out]; rfl, HW0.out.trans hR⟩
 by_cases hT : nT = n
 rotate_left
 ·have HV : Hid (drwB n nR nS nT nD = false) := by unfold Hid drwB; simp [hT]
  have HeR := hid (zbL hR)
  have HeS := hid (zbL hS)
  have HeT := hid (eq_no8 hT)
  clear hR hS hT
  go_enter func88, ntmps88
  go_upto_region 1 with fail
  generalize w.alloc (.cells (dvc bρ nρ cρ bR nR cR bS nS cS bT nT cT bD nD cD) 31) = W1 at *
  have HG := hid HD0h
  clear HD0h
  generalize w.heap.size = gb at *
  refine zaa 28 [.k (.pointer (some ⟨gb, 1, none⟩)), .k (.slice bR nR cR), .k (.int .i64 (nR : Nat)), .k (.int .i64 (n : Int)), .k (.bool true), .k (.bool true), .k (.pointer (some ⟨gb, 2, none⟩)), .k (.slice bS nS cS), .k (.int .i64 (nS : Nat)), .k (.int .i64 (n : Int)), .k (.bool true), .k (.bool true), .k (.bool true), .k (.pointer (some ⟨gb, 3, none⟩)), .k (.slice bT nT cT), .k (.int .i64 (nT : Nat)), .k (.int .i64 (n : Int)), .k (.bool false), .k (.bool false), .k (.bool false), .k undef, .k undef, .k undef, .k undef, .k undef, .k undef, .k (.bool false), .k (.bool false)] (Old W1) (by kernel_rfl) (by kernel_rfl) rfl ((Old.refl _).drew) ?st ?_
  case st =>
   refine .p <| .c (stf 1 U29 HG.out) <| .p <| .p <| .c (stv (v' := .bool (((nR : Nat) : Int) == ((n : Nat) : Int))) HeR.out) <| .p <| .p <| .c (stf 2 U29 HG.out) <| .p <| .p <| .c (stv (v' := .bool (((nS : Nat) : Int) == ((n : Nat) : Int))) HeS.out) <| .p <| .p <| .p <| .c (stf 3 U29 HG.out) <| .p <| .p <| .c (stv (v' := .bool (((nT : Nat) : Int) == ((n : Nat) : Int))) HeT.out) <| .p <| .p <| .c stn <| .c stn <| .c stn <| .c stn <| .c stn <| .c stn <| .p <| .c stp .n
  intro t wx hR hk
  simp only [fill, Ent.val, Ls0, Ls1, Ld1, Ld0, Ldn]
  go_wp2_with fail
  go_ret
  exact ⟨by rw [HV.out]; rfl, HW0.out.trans hR⟩
 by_cases hD : nD = 7 * n + 3
 rotate_left
 ·have HV : Hid (drwB n nR nS nT nD = false) := by unfold Hid drwB; simp [hD]
  have HeR := hid (zbL hR)
  have HeS := hid (zbL hS)
  have HeT := hid (zbL hT)
  have HeD := hid (eq_no8 hD)
  clear hR hS hT hD
  go_enter func88, ntmps88
  go_upto_region 1 with fail
  generalize w.alloc (.cells (dvc bρ nρ cρ bR nR cR bS nS cS bT nT cT bD nD cD) 31) = W1 at *
  have HG := hid HD0h
  clear HD0h
  generalize w.heap.size = gb at *
  refine zaa 28 [.k (.pointer (some ⟨gb, 1, none⟩)), .k (.slice bR nR cR), .k (.int .i64 (nR : Nat)), .k (.int .i64 (n : Int)), .k (.bool true), .k (.bool true), .k (.pointer (some ⟨gb, 2, none⟩)), .k (.slice bS nS cS), .k (.int .i64 (nS : Nat)), .k (.int .i64 (n : Int)), .k (.bool true), .k (.bool true), .k (.bool true), .k (.pointer (some ⟨gb, 3, none⟩)), .k (.slice bT nT cT), .k (.int .i64 (nT : Nat)), .k (.int .i64 (n : Int)), .k (.bool true), .k (.bool true), .k (.bool true), .k (.pointer (some ⟨gb, 4, none⟩)), .k (.slice bD nD cD), .k (.int .i64 (nD : Nat)), .k (.int .i64 (n : Int)), .k (.int .i64 ((7 * n + 3 : Nat) : Int)), .k (.bool false), .k (.bool false), .k (.bool false)] (Old W1) (by kernel_rfl) (by kernel_rfl) rfl ((Old.refl _).drew) ?st ?_
  case st =>
   refine .p <| .c (stf 1 U29 HG.out) <| .p <| .p <| .c (stv (v' := .bool (((nR : Nat) : Int) == ((n : Nat) : Int))) HeR.out) <| .p <| .p <| .c (stf 2 U29 HG.out) <| .p <| .p <| .c (stv (v' := .bool (((nS : Nat) : Int) == ((n : Nat) : Int))) HeS.out) <| .p <| .p <| .p <| .c (stf 3 U29 HG.out) <| .p <| .p <| .c (stv (v' := .bool (((nT : Nat) : Int) == ((n : Nat) : Int))) HeT.out) <| .p <| .p <| .p <| .c (stf 4 U29 HG.out) <| .p <| .p <| .c (stK old_R func125 (fun wx _ => HSz.out wx)) <| .c (stv (v' := .bool (((nD : Nat) : Int) == ((7 * n + 3 : Nat) : Int))) HeD.out) <| .p <| .c stp .n
  intro t wx hR hk
  simp only [fill, Ent.val, Ls0, Ls1, Ld1, Ld0, Ldn]
  go_wp2_with fail
  go_ret
  exact ⟨by rw [HV.out]; rfl, HW0.out.trans hR⟩
 have HV := hid (zb1.2 ⟨hR, hS, hT, hD⟩)
 have HeR := hid (zbL hR)
 have HeS := hid (zbL hS)
 have HeT := hid (zbL hT)
 have HeD := hid (zbL hD)
 clear hR hS hT hD
 go_enter func88, ntmps88
 go_upto_region 1 with fail
 generalize w.alloc (.cells (dvc bρ nρ cρ bR nR cR bS nS cS bT nT cT bD nD cD) 31) = W1 at *
 have HG := hid HD0h
 clear HD0h
 generalize w.heap.size = gb at *
 refine zaa 28 [.k (.pointer (some ⟨gb, 1, none⟩)), .k (.slice bR nR cR), .k (.int .i64 (nR : Nat)), .k (.int .i64 (n : Int)), .k (.bool true), .k (.bool true), .k (.pointer (some ⟨gb, 2, none⟩)), .k (.slice bS nS cS), .k (.int .i64 (nS : Nat)), .k (.int .i64 (n : Int)), .k (.bool true), .k (.bool true), .k (.bool true), .k (.pointer (some ⟨gb, 3, none⟩)), .k (.slice bT nT cT), .k (.int .i64 (nT : Nat)), .k (.int .i64 (n : Int)), .k (.bool true), .k (.bool true), .k (.bool true), .k (.pointer (some ⟨gb, 4, none⟩)), .k (.slice bD nD cD), .k (.int .i64 (nD : Nat)), .k (.int .i64 (n : Int)), .k (.int .i64 ((7 * n + 3 : Nat) : Int)), .k (.bool true), .k (.bool true), .k (.bool true)] (Old W1) (by kernel_rfl) (by kernel_rfl) rfl ((Old.refl _).drew) ?st ?_
 case st =>
  refine .p <| .c (stf 1 U29 HG.out) <| .p <| .p <| .c (stv (v' := .bool (((nR : Nat) : Int) == ((n : Nat) : Int))) HeR.out) <| .p <| .p <| .c (stf 2 U29 HG.out) <| .p <| .p <| .c (stv (v' := .bool (((nS : Nat) : Int) == ((n : Nat) : Int))) HeS.out) <| .p <| .p <| .p <| .c (stf 3 U29 HG.out) <| .p <| .p <| .c (stv (v' := .bool (((nT : Nat) : Int) == ((n : Nat) : Int))) HeT.out) <| .p <| .p <| .p <| .c (stf 4 U29 HG.out) <| .p <| .p <| .c (stK old_R func125 (fun wx _ => HSz.out wx)) <| .c (stv (v' := .bool (((nD : Nat) : Int) == ((7 * n + 3 : Nat) : Int))) HeD.out) <| .p <| .c stp .n
 intro t wx hR hk
 simp only [fill, Ent.val, Ls0, Ls1, Ld1, Ld0, Ldn]
 go_wp2_with fail
 go_ret
 exact ⟨by rw [HV.out]; rfl, HW0.out.trans hR⟩
abbrev jv (label : List Int) (y : Int) (bi : OA) (l ci : Nat) (bo : OA) (no co : Nat) (bρ : OA) (nρ cρ : Nat) (bR : OA) (nR cR : Nat) (bS : OA) (nS cS : Nat) (bT : OA) (nT cT : Nat) (bD : OA) (nD cD : Nat) : Value := .agg #[.string (strOfNums label), .int .u64 y, .slice bi l ci, .slice bo no co, .slice bρ nρ cρ, .slice bR nR cR, .slice bS nS cS, .slice bT nT cT, .slice bD nD cD]
abbrev jvc (label : List Int) (y : Int) (bi : OA) (l ci : Nat) (bo : OA) (no co : Nat) (bρ : OA) (nρ cρ : Nat) (bR : OA) (nR cR : Nat) (bS : OA) (nS cS : Nat) (bT : OA) (nT cT : Nat) (bD : OA) (nD cD : Nat) : Array Value := #[.string (strOfNums label), .int .u64 y, .slice bi l ci, .slice bo no co, .slice bρ nρ cρ, .slice bR nR cR, .slice bS nS cS, .slice bT nT cT, .slice bD nD cD]
def fewR (nρ nR nS nT nD : Nat) : Bool := decide (nρ <= 10 /\ nR <= 10 /\ nS <= 10 /\ nT <= 10 /\ nD <= 80)
def fewJ (ln l no nρ nR nS nT nD : Nat) : Bool := decide (ln <= 100 /\ l <= 10 /\ no <= 10) && fewR nρ nR nS nT nD
theorem fewJ_iff {ln l no nρ nR nS nT nD : Nat} : fewJ ln l no nρ nR nS nT nD = true ↔ (ln <= 100 /\ l <= 10 /\ no <= 10) /\ nρ <= 10 /\ nR <= 10 /\ nS <= 10 /\ nT <= 10 /\ nD <= 80 := by unfold fewJ fewR; simp [Bool.and_eq_true_iff]
theorem few8d_any (bρ : OA) (nρ cρ : Nat) (bR : OA) (nR cR : Nat) (bS : OA) (nS cS : Nat) (bT : OA) (nT cT : Nat) (bD : OA) (nD cD : Nat) (w : World) : Calls prog 49 #[dv bρ nρ cρ bR nR cR bS nS cS bT nT cT bD nD cD] w (Ret w (.bool (fewR nρ nR nS nT nD))) := by
 have HZ := lain1 w (dvc bρ nρ cρ bR nR cR bS nS cS bT nT cT bD nD cD) 31
 have HW0 : Hid (Old w (w.alloc (.cells (dvc bρ nρ cρ bR nR cR bS nS cS bT nT cT bD nD cD) 31))) := HZ.old
 have d0 := HZ.cell 0 0 (by simp) rfl
 have d1 := HZ.cell 0 1 (by simp) rfl
 have d2 := HZ.cell 0 2 (by simp) rfl
 have d3 := HZ.cell 0 3 (by simp) rfl
 have d4 := HZ.cell 0 4 (by simp) rfl
 clear HZ
 simp only [Nat.add_zero] at d0 d1 d2 d3 d4
 by_cases h0 : nρ <= 10
 rotate_left
 ·have k0 : ¬ (nρ : Int) <= 10 := by omega
  have HV : Hid (fewR nρ nR nS nT nD = false) := by unfold Hid fewR; simp [h0]
  rw [HV.out]
  clear h0
  go_enter func49, ntmps49
  go_upto_region 1 with fail
  generalize w.alloc (.cells (dvc bρ nρ cρ bR nR cR bS nS cS bT nT cT bD nD cD) 31) = W at *
  go_wp2_with fail
  go_ret
  exact ⟨rfl, HW0.out⟩
 have k0 : (nρ : Int) <= 10 := by omega
 by_cases h1 : nR <= 10
 rotate_left
 ·have k1 : ¬ (nR : Int) <= 10 := by omega
  have HV : Hid (fewR nρ nR nS nT nD = false) := by unfold Hid fewR; simp [h0, h1]
  rw [HV.out]
  clear h0
  clear h1
  go_enter func49, ntmps49
  go_upto_region 1 with fail
  generalize w.alloc (.cells (dvc bρ nρ cρ bR nR cR bS nS cS bT nT cT bD nD cD) 31) = W at *
  go_wp2_with fail
  go_ret
  exact ⟨rfl, HW0.out⟩
 have k1 : (nR : Int) <= 10 := by omega
 by_cases h2 : nS <= 10
 rotate_left
 ·have k2 : ¬ (nS : Int) <= 10 := by omega
  have HV : Hid (fewR nρ nR nS nT nD = false) := by unfold Hid fewR; simp [h0, h1, h2]
  rw [HV.out]
  clear h0
  clear h1
  clear h2
  go_enter func49, ntmps49
  go_upto_region 1 with fail
  generalize w.alloc (.cells (dvc bρ nρ cρ bR nR cR bS nS cS bT nT cT bD nD cD) 31) = W at *
  go_wp2_with fail
  go_ret
  exact ⟨rfl, HW0.out⟩
 have k2 : (nS : Int) <= 10 := by omega
 by_cases h3 : nT <= 10
 rotate_left
 ·have k3 : ¬ (nT : Int) <= 10 := by omega
  have HV : Hid (fewR nρ nR nS nT nD = false) := by unfold Hid fewR; simp [h0, h1, h2, h3]
  rw [HV.out]
  clear h0
  clear h1
  clear h2
  clear h3
  go_enter func49, ntmps49
  go_upto_region 1 with fail
  generalize w.alloc (.cells (dvc bρ nρ cρ bR nR cR bS nS cS bT nT cT bD nD cD) 31) = W at *
  go_wp2_with fail
  go_ret
  exact ⟨rfl, HW0.out⟩
 have k3 : (nT : Int) <= 10 := by omega
 by_cases h4 : nD <= 80
 rotate_left
 ·have k4 : ¬ (nD : Int) <= 80 := by omega
  have HV : Hid (fewR nρ nR nS nT nD = false) := by unfold Hid fewR; simp [h0, h1, h2, h3, h4]
  rw [HV.out]
  clear h0
  clear h1
  clear h2
  clear h3
  clear h4
  go_enter func49, ntmps49
  go_upto_region 1 with fail
  generalize w.alloc (.cells (dvc bρ nρ cρ bR nR cR bS nS cS bT nT cT bD nD cD) 31) = W at *
  go_wp2_with fail
  go_ret
  exact ⟨rfl, HW0.out⟩
 have k4 : (nD : Int) <= 80 := by omega
 have HV : Hid (fewR nρ nR nS nT nD = true) := by unfold Hid fewR; simp [h0, h1, h2, h3, h4]
 rw [HV.out]
 clear h0
 clear h1
 clear h2
 clear h3
 clear h4
 go_enter func49, ntmps49
 go_upto_region 1 with fail
 generalize w.alloc (.cells (dvc bρ nρ cρ bR nR cR bS nS cS bT nT cT bD nD cD) 31) = W at *
 go_wp2_with fail
 go_ret
 exact ⟨rfl, HW0.out⟩
theorem few8_any (label : List Int) (y : Int) (bi : OA) (l ci : Nat) (bo : OA) (no co : Nat) (bρ : OA) (nρ cρ : Nat) (bR : OA) (nR cR : Nat) (bS : OA) (nS cS : Nat) (bT : OA) (nT cT : Nat) (bD : OA) (nD cD : Nat) (w : World) : Calls prog 14 #[jv label y bi l ci bo no co bρ nρ cρ bR nR cR bS nS cS bT nT cT bD nD cD] w (Ret w (.bool (fewJ label.length l no nρ nR nS nT nD))) := by
 have HFw : Hid (∀ wx, Calls prog 49 #[dv bρ nρ cρ bR nR cR bS nS cS bT nT cT bD nD cD] wx (Ret wx (.bool (fewR nρ nR nS nT nD)))) := fun wx => few8d_any bρ nρ cρ bR nR cR bS nS cS bT nT cT bD nD cD wx
 have hsz : (strOfNums label).size = label.length := strOfNums_size label
 have HZ := lain1 w (jvc label y bi l ci bo no co bρ nρ cρ bR nR cR bS nS cS bT nT cT bD nD cD) 33
 have HW0 : Hid (Old w (w.alloc (.cells (jvc label y bi l ci bo no co bρ nρ cρ bR nR cR bS nS cS bT nT cT bD nD cD) 33))) := HZ.old
 have d0 := HZ.cell 0 0 (by simp) rfl
 have d2 := HZ.cell 0 2 (by simp) rfl
 have d3 := HZ.cell 0 3 (by simp) rfl
 have d4 := HZ.cell 0 4 (by simp) rfl
 have d5 := HZ.cell 0 5 (by simp) rfl
 have d6 := HZ.cell 0 6 (by simp) rfl
 have d7 := HZ.cell 0 7 (by simp) rfl
 have d8 := HZ.cell 0 8 (by simp) rfl
 clear HZ
 simp only [Nat.add_zero] at d0 d2 d3 d4 d5 d6 d7 d8
 by_cases h0 : label.length <= 100
 rotate_left
 ·have k0 : ¬ (label.length : Int) <= 100 := by omega
  have HV : Hid (fewJ label.length l no nρ nR nS nT nD = false) := by unfold Hid fewJ; simp [h0]
  rw [HV.out]
  clear h0
  go_enter func14, ntmps14
  go_upto_region 1 with fail
  generalize w.alloc (.cells (jvc label y bi l ci bo no co bρ nρ cρ bR nR cR bS nS cS bT nT cT bD nD cD) 33) = W at *
  go_wp2_with fail
  go_ret
  exact ⟨rfl, HW0.out⟩
 have k0 : (label.length : Int) <= 100 := by omega
 by_cases h1 : l <= 10
 rotate_left
 ·have k1 : ¬ (l : Int) <= 10 := by omega
  have HV : Hid (fewJ label.length l no nρ nR nS nT nD = false) := by unfold Hid fewJ; simp [h0, h1]
  rw [HV.out]
  clear h0
  clear h1
  go_enter func14, ntmps14
  go_upto_region 1 with fail
  generalize w.alloc (.cells (jvc label y bi l ci bo no co bρ nρ cρ bR nR cR bS nS cS bT nT cT bD nD cD) 33) = W at *
  go_wp2_with fail
  go_ret
  exact ⟨rfl, HW0.out⟩
 have k1 : (l : Int) <= 10 := by omega
 by_cases h2 : no <= 10
 rotate_left
 ·have k2 : ¬ (no : Int) <= 10 := by omega
  have HV : Hid (fewJ label.length l no nρ nR nS nT nD = false) := by unfold Hid fewJ; simp [h0, h1, h2]
  rw [HV.out]
  clear h0
  clear h1
  clear h2
  go_enter func14, ntmps14
  go_upto_region 1 with fail
  generalize w.alloc (.cells (jvc label y bi l ci bo no co bρ nρ cρ bR nR cR bS nS cS bT nT cT bD nD cD) 33) = W at *
  go_wp2_with fail
  go_ret
  exact ⟨rfl, HW0.out⟩
 have k2 : (no : Int) <= 10 := by omega
 have HV : Hid (fewJ label.length l no nρ nR nS nT nD = fewR nρ nR nS nT nD) := by unfold Hid fewJ; simp [h0, h1, h2]
 rw [HV.out]
 clear h0
 clear h1
 clear h2
 generalize fewR nρ nR nS nT nD = fr at *
 go_enter func14, ntmps14
 go_upto_region 1 with fail
 generalize w.alloc (.cells (jvc label y bi l ci bo no co bρ nρ cρ bR nR cR bS nS cS bT nT cT bD nD cD) 33) = W at *
 go_wp2_with (go_at_call 49; refine (HFw.out _).mono ?_; rintro e w1 ⟨rfl, o1⟩)
 go_ret
 exact ⟨rfl, HW0.out.trans o1⟩
end
section
open Go Go.RowKit
def lookF : List Oper -> List Ent -> (Nat -> Value) -> Nat -> Value -> Nat -> Value
 | o :: os, e :: es, t, i, x, s => lookF os es t (i + 1) (match o.dst with | some d => bif Nat.beq d s then e.val (t i) else x | none => x) s
 | _, _, _, _, x, _ => x
def evL (ops : List Oper) (E : List Ent) (t : Nat -> Value) (L0 : List Value) : Operand -> Value
 | .tmp s => lookF ops E t 0 (L0.getD s undef) s
 | .const v => Act.eval ⟨#[], []⟩ (.const v)
 | .global g => Act.eval ⟨#[], []⟩ (.global g)
 | .func f => Act.eval ⟨#[], []⟩ (.func f)
theorem evL_func {ops : List Oper} {E : List Ent} {t : Nat -> Value} {L0 : List Value} {f : FuncId} : evL ops E t L0 (.func f) = Act.eval ⟨#[], []⟩ (.func f) := rfl
theorem zel (s : Nat) : ∀ (os : List Oper) (es : List Ent) (t : Nat -> Value) (i : Nat) (L : List Value), (∀ k o d, k < es.length -> os[k]? = some o -> o.dst = some d -> d < L.length) -> (fill os es t i L).getD s undef = lookF os es t i (L.getD s undef) s
 | [], _, _, _, _, _ => by simp [fill, lookF]
 | _ :: _, [], _, _, _, _ => by simp [fill, lookF]
 | o :: os, e :: es, t, i, L, h => by
  unfold fill lookF
  have h0 := h 0 o
  cases hd : o.dst with
  | none => exact zel s os es t (i + 1) L fun k o' d hk ho hd' => h (k + 1) o' d (by simp; omega) (by simpa using ho) hd'
  | some d =>
   have hdl := h0 d (by simp) rfl hd
   dsimp only
   rw [zel s os es t (i + 1) (L.set d (e.val (t i))) fun k o' d' hk ho hd' => by
    have := h (k + 1) o' d' (by simp; omega) (by simpa using ho) hd'
    simpa using this]
   congr 1
   cases hb : Nat.beq d s with
   | true =>
    have hds : d = s := Nat.eq_of_beq_eq_true hb
    subst hds
    simp [List.getD, hdl]
   | false =>
    have hds : ¬ d = s := Nat.ne_of_beq_eq_false hb
    simp [List.getD, List.getElem?_set_ne hds]
theorem evL_eq {ops : List Oper} {E : List Ent} {L0 : List Value} (h : ∀ k o d, k < E.length -> ops[k]? = some o -> o.dst = some d -> d < L0.length) (t : Nat -> Value) : Act.eval ⟨(fill ops E t 0 L0).toArray, []⟩ = evL ops E t L0 := by
 funext x
 cases x with
 | tmp s =>
  have := zel s ops E t 0 L0 h
  show (fill ops E t 0 L0).toArray.getD s undef = lookF ops E t 0 (L0.getD s undef) s
  rw [<- this]
  simp [Array.getD_eq_getD_getElem?]
 | const v => rfl
 | global g => rfl
 | func f => rfl
structure StepTz (P : Program) (ops : List Oper) (L0 : List Value) (E : List Ent) (R : World -> Prop) (o : Oper) (e : Ent) : Prop where
 go : ∀ (t : Nat -> Value) (wx : World), R wx -> (∀ k, needs o k = true -> okAt E k (t k) wx) ->
  match zao E o with
  | some true => PostT P E R e wx ((execOp (evL ops E t L0) o).run P wx)
  | some false => ∀ w, e.ok undef w
  | none => False
def StepsTz (P : Program) (ops : List Oper) (L0 : List Value) (E : List Ent) (R : World -> Prop) : List Oper -> List Ent -> Prop
 | o :: os, e :: es => StepTz P ops L0 E R o e /\ StepsTz P ops L0 E R os es
 | _, [] => True
 | [], _ :: _ => False
theorem StepsTz.c {P : Program} {ops : List Oper} {L0 : List Value} {E : List Ent} {R : World -> Prop} {o : Oper} {os : List Oper} {e : Ent} {es : List Ent} (h : StepTz P ops L0 E R o e) (k : StepsTz P ops L0 E R os es) : StepsTz P ops L0 E R (o :: os) (e :: es) := ⟨h, k⟩
theorem StepsTz.n {P : Program} {ops : List Oper} {L0 : List Value} {E : List Ent} {R : World -> Prop} {os : List Oper} : StepsTz P ops L0 E R os [] := by cases os <;> exact trivial
theorem StepsTz.to {P : Program} {ops : List Oper} {L0 : List Value} {E : List Ent} {R : World -> Prop} (h : ∀ t, Act.eval ⟨(fill ops E t 0 L0).toArray, []⟩ = evL ops E t L0) : ∀ (os : List Oper) (es : List Ent), StepsTz P ops L0 E R os es -> StepsT P ops L0 E R os es
 | o :: os, e :: es, hs => ⟨⟨fun t wx h1 h2 => by rw [h t]; exact hs.1.go t wx h1 h2⟩, StepsTz.to h os es hs.2⟩
 | [], [], _ => trivial
 | _ :: _, [], _ => trivial
 | [], _ :: _, hs => hs.elim
theorem zae {P : Program} {Q : Exit -> Act -> World -> Prop} {id : Nat} {ops : List Oper} {L0 : List Value} {w : World} (n : Nat) (E : List Ent) (R : World -> Prop) (hm : P.follows .mixedOrders = true) (hc : ze8 ops n L0.length = true) (hE : E.length = n) (start : R w.drew) (steps : StepsTz P ops L0 E R ops E)
  (fin : ∀ (t : Nat -> Value) (wx : World), R wx -> (∀ k, k < n -> okAt E k (t k) wx) -> wpList P ops.toArray Q (ops.drop n) ⟨(fill ops E t 0 L0).toArray, []⟩ wx) : (Code.region id ops.toArray true).wp P Q ⟨L0.toArray, []⟩ w := by
 refine zaa n E R hm hc hE start (StepsTz.to (evL_eq fun k o d hk ho hd => ?_) ops E steps) fin
 unfold ze8 at hc
 simp only [Bool.and_eq_true, decide_eq_true_eq, List.all_eq_true, List.mem_range] at hc
 have := hc.2 k (by omega)
 rw [ho] at this
 dsimp only at this
 unfold opChk at this
 rw [hd] at this
 simp only [Bool.and_eq_true, decide_eq_true_eq] at this
 exact this.1.1.2.1
section
variable {P : Program} {ops : List Oper} {L0 : List Value} {E : List Ent} {R : World -> Prop} {o : Oper} {e : Ent}
theorem stpz {v : Value} (hg : zao E o = some true := by rfl) (h : ∀ (t : Nat -> Value) (wx : World), (execOp (evL ops E t L0) o).run P wx = .ok (.value v) wx := by intro _ _; kernel_rfl) : StepTz P ops L0 E R o (.k v) := by
 refine ⟨fun t wx hR _ => ?_⟩
 rw [hg]
 dsimp only
 rw [h t wx]
 exact ⟨hR, fun _ _ h => h, rfl⟩
theorem stvz {v' v : Value} (he : v' = v) (hg : zao E o = some true := by rfl) (h : ∀ (t : Nat -> Value) (wx : World), (execOp (evL ops E t L0) o).run P wx = .ok (.value v') wx := by intro _ _; kernel_rfl) : StepTz P ops L0 E R o (.k v) := by
 subst he
 exact stpz hg h
theorem stwz {v : Value} (hg : zao E o = some true) (h : ∀ (t : Nat -> Value) (wx : World), R wx -> (execOp (evL ops E t L0) o).run P wx = .ok (.value v) wx) : StepTz P ops L0 E R o (.k v) := by
 refine ⟨fun t wx hR _ => ?_⟩
 rw [hg]
 dsimp only
 rw [h t wx hR]
 exact ⟨hR, fun _ _ h => h, rfl⟩
theorem stkz {f : FuncId} {args : Array Value} {v : Value} (hg : zao E o = some true) (hR : ∀ w w', R w -> Old w w' -> R w') (hx : ∀ (t : Nat -> Value) (wx : World), (execOp (evL ops E t L0) o).run P wx = .ok (.enter f args) wx)
  (h : ∀ (wx : World), R wx -> Calls P f args wx fun r w' => r = .returned v /\ Old wx w') : StepTz P ops L0 E R o (.k v) := by
 refine ⟨fun t wx hRx _ => ?_⟩
 rw [hg]
 dsimp only
 rw [hx t wx]
 exact (h wx hRx).mono fun r w' ⟨hr, ho⟩ => ⟨v, hr, ResT.old hR hRx ho rfl⟩
theorem stmz {ob : (Nat -> Value) -> Obj} {v : Nat -> Value} (hR : ∀ w w', R w -> Old w w' -> R w') (h : ∀ (t : Nat -> Value) (wx : World), R wx -> (∀ k, needs o k = true -> okAt E k (t k) wx) -> e.ok (v wx.heap.size) (wx.alloc (ob t))) (hg : zao E o = some true := by rfl) (hx : ∀ (t : Nat -> Value) (wx : World), (execOp (evL ops E t L0) o).run P wx = .ok (.value (v wx.heap.size)) (wx.alloc (ob t)) := by intro _ _; kernel_rfl) : StepTz P ops L0 E R o e := by
 refine ⟨fun t wx hRx hd => ?_⟩
 rw [hg]
 dsimp only
 rw [hx t wx]
 exact ResT.old hR hRx ((Old.refl _).alloc _) (h t wx hRx hd)
theorem run_enterz {t : Nat -> Value} {w : World} {f : FuncId} {fn : Func} {c : Code} {oas : Array Operand} {tys : Array TypeId} {dst : Option Tmp} {ty : TypeId} {pos : String} {after : Array Edge} {guard : Option (Nat × Bool)} (hf : P.funcs[f]? = some fn) (hn : (fn.name == "runtime.NumGoroutine") = false) (hb : fn.body = some c) : (execOp (evL ops E t L0) ⟨dst, .call ⟨.value (.func f), oas, tys⟩, ty, pos, after, guard⟩).run P w = .ok (.enter f (oas.map (evL ops E t L0))) w := by
 have h1 : ¬ fn.name = "runtime.NumGoroutine" := by simpa using hn
 simp [execOp, evL_func, callFunc, hf, h1, hb, go_sem]
section
variable {dst : Option Tmp} {ty : TypeId} {pos : String} {after : Array Edge} {guard : Option (Nat × Bool)} {T : TypeId} {x : Operand} {d : TypeDesc}
theorem stlz {p : Addr} {v : Value} (hu : P.underlying T = some d) (hc : ∀ wx, R wx -> wx.cell? p = some v) (hg : zao E ⟨dst, .load T x, ty, pos, after, guard⟩ = some true := by rfl) (hd : aggD d = false := by rfl) (hx : ∀ t, evL ops E t L0 x = .pointer (some p) := by intro _; kernel_rfl) : StepTz P ops L0 E R ⟨dst, .load T x, ty, pos, after, guard⟩ (.k v) := by
 refine stwz hg fun t wx hR => ?_
 have hag : (isAgg T).run P wx = .ok false wx := by
  unfold isAgg
  rw [Sem.run_bind, run_underlying hu wx]
  cases d <;> simp_all [aggD]
 simp only [execOp, hx t, Instr.loadAt, Instr.sureAddr, loadVar, Sem.run_bind, Sem.run_pure, Result.andThen_ok, hag]
 simp [hc wx hR]
theorem stsz {b : Nat} {cs : Array Value} {tb : TypeId} (hu : P.underlying T = some d) (hc : ∀ wx, R wx -> wx.heap[b]? = some (.cells cs tb (0, 0))) (hg : zao E ⟨dst, .load T x, ty, pos, after, guard⟩ = some true := by rfl) (hd : aggD d = true := by rfl) (hi : (P.info? T).map (·.size) = some cs.size := by kernel_rfl) (hx : ∀ t, evL ops E t L0 x = .pointer (some ⟨b, 0, none⟩) := by intro _; kernel_rfl) : StepTz P ops L0 E R ⟨dst, .load T x, ty, pos, after, guard⟩ (.k (.agg cs)) := by
 refine stwz hg fun t wx hR => ?_
 simp only [execOp, hx t, Instr.loadAt, Instr.sureAddr, Sem.run_bind, Sem.run_pure, Result.andThen_ok, run_loadVar_row wx b tb T cs (0, 0) d (hc wx hR) hu (by cases d <;> simp_all [aggD]) hi]
theorem stfz {b : Nat} {cs : Array Value} {tb : TypeId} {v : Value} (j : Nat) (hu : P.underlying T = some d) (hc : ∀ wx, R wx -> wx.heap[b]? = some (.cells cs tb (0, 0))) (hg : zao E ⟨dst, .load T x, ty, pos, after, guard⟩ = some true := by rfl) (hd : aggD d = false := by rfl) (hx : ∀ t, evL ops E t L0 x = .pointer (some ⟨b, j, none⟩) := by intro _; kernel_rfl) (hv : cs[j]? = some v := by rfl) : StepTz P ops L0 E R ⟨dst, .load T x, ty, pos, after, guard⟩ (.k v) :=
 stlz hu (fun wx hR => (cell_of_row _ _ j _ _ (0, 0) (hc wx hR)).trans hv) hg hd hx
end
theorem stjz {dst : Option Tmp} {ty : TypeId} {pos : String} {after : Array Edge} {guard : Option (Nat × Bool)} {T e : TypeId} {x ix : Operand} {b off n c i : Nat} (sz : Nat) (hi : i < n) (hu : P.underlying T = some (.slice e)) (hs : (P.info? e).map (·.size) = some sz := by kernel_rfl) (hg : zao E ⟨dst, .indexAddr T x ix, ty, pos, after, guard⟩ = some true := by rfl) (hx : ∀ t, evL ops E t L0 x = .slice (some ⟨b, off, none⟩) n c := by intro _; kernel_rfl) (hix : ∀ t, evL ops E t L0 ix = .int .i64 (i : Int) := by intro _; kernel_rfl) : StepTz P ops L0 E R ⟨dst, .indexAddr T x ix, ty, pos, after, guard⟩ (.k (.pointer (some ⟨b, off + i * sz, none⟩))) := by
 refine stwz hg fun t wx _ => ?_
 obtain ⟨z, h1, h2⟩ := Option.map_eq_some_iff.1 hs
 simp only [execOp, hx t, hix t]
 simp [Instr.indexAt, run_underlying hu, asIntOf, sizeOf, typeInfo, h1, h2, hi, go_sem]
theorem stiz {dst : Option Tmp} {ty : TypeId} {pos : String} {after : Array Edge} {guard : Option (Nat × Bool)} {T e : TypeId} {x ix : Operand} {b off n c i : Nat} (hi : i < n) (hu : P.underlying T = some (.slice e)) (hs : (P.info? e).map (·.size) = some 1 := by kernel_rfl) (hg : zao E ⟨dst, .indexAddr T x ix, ty, pos, after, guard⟩ = some true := by rfl) (hx : ∀ t, evL ops E t L0 x = .slice (some ⟨b, off, none⟩) n c := by intro _; kernel_rfl) (hix : ∀ t, evL ops E t L0 ix = .int .i64 (i : Int) := by intro _; kernel_rfl) : StepTz P ops L0 E R ⟨dst, .indexAddr T x ix, ty, pos, after, guard⟩ (.k (.pointer (some ⟨b, off + i, none⟩))) := by
 have h := stjz (P := P) (R := R) 1 hi hu hs hg hx hix
 rwa [Nat.mul_one] at h
theorem sti0z {dst : Option Tmp} {ty : TypeId} {pos : String} {after : Array Edge} {guard : Option (Nat × Bool)} {T e : TypeId} {x ix : Operand} {b n c i : Nat} (hi : i < n) (hu : P.underlying T = some (.slice e)) (hs : (P.info? e).map (·.size) = some 1 := by kernel_rfl) (hg : zao E ⟨dst, .indexAddr T x ix, ty, pos, after, guard⟩ = some true := by rfl) (hx : ∀ t, evL ops E t L0 x = .slice (some ⟨b, 0, none⟩) n c := by intro _; kernel_rfl) (hix : ∀ t, evL ops E t L0 ix = .int .i64 (i : Int) := by intro _; kernel_rfl) : StepTz P ops L0 E R ⟨dst, .indexAddr T x ix, ty, pos, after, guard⟩ (.k (.pointer (some ⟨b, i, none⟩))) := by
 have h := stiz (P := P) (R := R) hi hu hs hg hx hix
 rwa [Nat.zero_add] at h
theorem sajz {dst : Option Tmp} {ty : TypeId} {pos : String} {after : Array Edge} {guard : Option (Nat × Bool)} {T e : TypeId} {x ix : Operand} {b off n i : Nat} (sz : Nat) (hi : i < n) (hu : P.underlying T = some (.array n e)) (hs : (P.info? e).map (·.size) = some sz := by kernel_rfl) (hg : zao E ⟨dst, .indexAddr T x ix, ty, pos, after, guard⟩ = some true := by rfl) (hx : ∀ t, evL ops E t L0 x = .pointer (some ⟨b, off, none⟩) := by intro _; kernel_rfl) (hix : ∀ t, evL ops E t L0 ix = .int .i64 (i : Int) := by intro _; kernel_rfl) : StepTz P ops L0 E R ⟨dst, .indexAddr T x ix, ty, pos, after, guard⟩ (.k (.pointer (some ⟨b, off + i * sz, none⟩))) := by
 refine stwz hg fun t wx _ => ?_
 obtain ⟨z, h1, h2⟩ := Option.map_eq_some_iff.1 hs
 simp only [execOp, hx t, hix t]
 simp [Instr.indexAt, Instr.sureAddr, run_underlying hu, asIntOf, sizeOf, typeInfo, h1, h2, hi, go_sem]
theorem saiz {dst : Option Tmp} {ty : TypeId} {pos : String} {after : Array Edge} {guard : Option (Nat × Bool)} {T e : TypeId} {x ix : Operand} {b off n i : Nat} (hi : i < n) (hu : P.underlying T = some (.array n e)) (hs : (P.info? e).map (·.size) = some 1 := by kernel_rfl) (hg : zao E ⟨dst, .indexAddr T x ix, ty, pos, after, guard⟩ = some true := by rfl) (hx : ∀ t, evL ops E t L0 x = .pointer (some ⟨b, off, none⟩) := by intro _; kernel_rfl) (hix : ∀ t, evL ops E t L0 ix = .int .i64 (i : Int) := by intro _; kernel_rfl) : StepTz P ops L0 E R ⟨dst, .indexAddr T x ix, ty, pos, after, guard⟩ (.k (.pointer (some ⟨b, off + i, none⟩))) := by
 have h := sajz (P := P) (R := R) 1 hi hu hs hg hx hix
 rwa [Nat.mul_one] at h
theorem stSz {dst : Option Tmp} {ty : TypeId} {pos : String} {after : Array Edge} {guard : Option (Nat × Bool)} {T : TypeId} {x y : Operand} {p : Addr} {v : Value} {e : Ent} (h :  ∀ (t : Nat -> Value) (wx : World), R wx -> (∃ o, wx.cell? p = some o) /\ wx.frozen? p = false /\ ResT E R e wx undef (wx.setCell p v)) (h1 : v.cells = #[v] := by rfl) (h2 : v.oneCell' = true := by rfl) (hs : (P.info? T).map (·.size) = some 1 := by kernel_rfl) (hg : zao E ⟨dst, .store T x y, ty, pos, after, guard⟩ = some true := by rfl) (hx : ∀ t, evL ops E t L0 x = .pointer (some p) := by intro _; kernel_rfl) (hy : ∀ t, evL ops E t L0 y = v := by intro _; kernel_rfl) : StepTz P ops L0 E R ⟨dst, .store T x y, ty, pos, after, guard⟩ e := by
 refine ⟨fun t wx hR _ => ?_⟩
 obtain ⟨⟨o, ho⟩, hf, hres⟩ := h t wx hR
 obtain ⟨z, hz1, hz2⟩ := Option.map_eq_some_iff.1 hs
 have hadd : p.add 0 = p := by simp [Addr.add]
 have hrun : (execOp (evL ops E t L0) ⟨dst, .store T x y, ty, pos, after, guard⟩).run P wx = .ok .skip (wx.setCell p v) := by
  simp only [execOp, hx t, hy t, Instr.storeAt, Instr.sureAddr, storeVar, h1]
  simp [storeCells, sizeOf, typeInfo, hz1, hz2, hadd, run_store _ _ _ _ _ h2, ho, hf, go_sem]
 rw [hg]
 dsimp only
 rw [hrun]
 exact hres
theorem stKz {f : FuncId} {fn : Func} {c : Code} {oas : Array Operand} {tys : Array TypeId} {dst : Option Tmp} {ty : TypeId} {pos : String} {after : Array Edge} {guard : Option (Nat × Bool)} {args : Array Value} {v : Value} (hR : ∀ w w', R w -> Old w w' -> R w') (hf : P.funcs[f]? = some fn) (h : ∀ (wx : World), R wx -> Calls P f args wx fun r w' => r = .returned v /\ Old wx w') (hg : zao E ⟨dst, .call ⟨.value (.func f), oas, tys⟩, ty, pos, after, guard⟩ = some true := by rfl) (hn : (fn.name == "runtime.NumGoroutine") = false := by decide) (hb : fn.body = some c := by rfl) (hx : ∀ t, oas.map (evL ops E t L0) = args := by intro _; kernel_rfl) : StepTz P ops L0 E R ⟨dst, .call ⟨.value (.func f), oas, tys⟩, ty, pos, after, guard⟩ (.k v) :=
 stkz hg hR (fun t wx => by rw [run_enterz hf hn hb, hx t]) h
end
end
section
open Go Go.RowKit
section
variable {P : Program} {ops : List Oper} {L0 : List Value} {E : List Ent} {R : World -> Prop} {o : Oper} {e : Ent}
theorem strz {dst : Option Tmp} {ty : TypeId} {pos : String} {after : Array Edge} {guard : Option (Nat × Bool)} {T T' : TypeId} {x y : Operand} {a b : Int} (ha : 0 <= a) (hb : 0 < b) (hg : zao E ⟨dst, .binOp .rem T x y T', ty, pos, after, guard⟩ = some true := by rfl) (hx : ∀ t, evL ops E t L0 x = .int .u64 a := by intro _; kernel_rfl) (hy : ∀ t, evL ops E t L0 y = .int .u64 b := by intro _; kernel_rfl) : StepTz P ops L0 E R ⟨dst, .binOp .rem T x y T', ty, pos, after, guard⟩ (.k (.int .u64 (a % b))) := by
 refine stwz hg fun t wx _ => ?_
 have h1 : ¬ b = 0 := by omega
 have h2 : a.tmod b = a % b := Int.tmod_eq_emod_of_nonneg ha
 simp only [execOp, hx t, hy t]
 simp [eqGuard, binOp, Op.intDiv, h1, h2, go_sem]
end
def eI (E : NI) (Rr : NN) (n i : Nat) : Nat -> Int := fun k =>
 if k < n then (if k < i then E k else 0)
 else if k < 2 * n then (if k - n < i then E k else 0)
 else if k < 3 * n then (if k - 2 * n < i then E k else 0)
 else if k < 4 * n then (if k - 3 * n < i then E k else 0)
 else if k < 5 * n then (if k - 4 * n < i then E k else 0)
 else if k < 6 * n then (if k - 5 * n < i then E k else 0)
 else if k < 7 * n - 1 then (if k - 6 * n + 1 < i then E k else 0)
 else if k < 7 * n then 0
 else Rr (k - 7 * n) i
def sett8 (F : NI) (p : Nat) (x : Int) : Nat -> Int := fun k => if k = p then x else F k
def midI (E : NI) (Rr : NN) (n i : Nat) : Nat -> Int := sett8 (sett8 (sett8 (sett8 (sett8 (sett8 (eI E Rr n i) i (E i)) (n + i) (E (n + i))) (2 * n + i) (E (2 * n + i))) (3 * n + i) (E (3 * n + i))) (4 * n + i) (E (4 * n + i))) (5 * n + i) (E (5 * n + i))
def eH (E : NI) (Rr : NN) (n i c : Nat) : Nat -> Int := fun k => if k < 7 * n then eI E Rr n (i + 1) k else if k < 7 * n + c then Rr (k - 7 * n) (i + 1) else Rr (k - 7 * n) i
section
variable {E : NI} {Rr : NN} {n i k : Nat}
theorem eI_last (h7 : ¬ k < 7 * n) : eI E Rr n i k = Rr (k - 7 * n) i := by
 unfold eI
 rw [if_neg (by omega), if_neg (by omega), if_neg (by omega), if_neg (by omega), if_neg (by omega), if_neg (by omega), if_neg (by omega), if_neg (by omega)]
theorem eI_same (h0 : k ≠ i) (h1 : k ≠ n + i) (h2 : k ≠ 2 * n + i) (h3 : k ≠ 3 * n + i) (h4 : k ≠ 4 * n + i) (h5 : k ≠ 5 * n + i) (h6 : 6 * n <= k -> k - 6 * n + 1 ≠ i) (h7 : k < 7 * n) : eI E Rr n i k = eI E Rr n (i + 1) k := by
 have hs : ∀ (p : Nat) (x : Int), p ≠ i -> (if p < i then x else 0) = (if p < i + 1 then x else 0) := fun p x hp => by
  by_cases h : p < i
  ·rw [if_pos h, if_pos (by omega)]
  ·rw [if_neg h, if_neg (by omega)]
 unfold eI
 by_cases c1 : k < n
 ·rw [if_pos c1, if_pos c1, hs k _ h0]
 rw [if_neg c1, if_neg c1]
 by_cases c2 : k < 2 * n
 ·rw [if_pos c2, if_pos c2, hs _ _ (by omega)]
 rw [if_neg c2, if_neg c2]
 by_cases c3 : k < 3 * n
 ·rw [if_pos c3, if_pos c3, hs _ _ (by omega)]
 rw [if_neg c3, if_neg c3]
 by_cases c4 : k < 4 * n
 ·rw [if_pos c4, if_pos c4, hs _ _ (by omega)]
 rw [if_neg c4, if_neg c4]
 by_cases c5 : k < 5 * n
 ·rw [if_pos c5, if_pos c5, hs _ _ (by omega)]
 rw [if_neg c5, if_neg c5]
 by_cases c6 : k < 6 * n
 ·rw [if_pos c6, if_pos c6, hs _ _ (by omega)]
 rw [if_neg c6, if_neg c6]
 by_cases c7 : k < 7 * n - 1
 ·rw [if_pos c7, if_pos c7, hs _ _ (h6 (by omega))]
 rw [if_neg c7, if_neg c7, if_pos h7, if_pos h7]
theorem eI_new (hi : i < n) : eI E Rr n (i + 1) i = E i /\ eI E Rr n (i + 1) (n + i) = E (n + i) /\ eI E Rr n (i + 1) (2 * n + i) = E (2 * n + i) /\ eI E Rr n (i + 1) (3 * n + i) = E (3 * n + i) /\ eI E Rr n (i + 1) (4 * n + i) = E (4 * n + i) /\ eI E Rr n (i + 1) (5 * n + i) = E (5 * n + i) /\ (0 < i -> eI E Rr n (i + 1) (6 * n + i - 1) = E (6 * n + i - 1)) := by
 unfold eI
 refine ⟨?_, ?_, ?_, ?_, ?_, ?_, fun h0 => ?_⟩
 ·rw [if_pos hi, if_pos (by omega)]
 ·rw [if_neg (by omega), if_pos (by omega), if_pos (by omega)]
 ·rw [if_neg (by omega), if_neg (by omega), if_pos (by omega), if_pos (by omega)]
 ·rw [if_neg (by omega), if_neg (by omega), if_neg (by omega), if_pos (by omega), if_pos (by omega)]
 ·rw [if_neg (by omega), if_neg (by omega), if_neg (by omega), if_neg (by omega), if_pos (by omega), if_pos (by omega)]
 ·rw [if_neg (by omega), if_neg (by omega), if_neg (by omega), if_neg (by omega), if_neg (by omega), if_pos (by omega), if_pos (by omega)]
 ·rw [if_neg (by omega), if_neg (by omega), if_neg (by omega), if_neg (by omega), if_neg (by omega), if_neg (by omega), if_pos (by omega), if_pos (by omega)]
theorem midI_at (hi : i < n) (h6 : k < 7 * n -> 6 * n <= k -> k - 6 * n + 1 ≠ i) : midI E Rr n i k = eH E Rr n i 0 k := by
 obtain ⟨a0, a1, a2, a3, a4, a5, _⟩ := eI_new (E := E) (Rr := Rr) hi
 unfold midI eH sett8
 by_cases c5 : k = 5 * n + i
 ·subst c5; rw [if_pos rfl, if_pos (by omega), a5]
 rw [if_neg c5]
 by_cases c4 : k = 4 * n + i
 ·subst c4; rw [if_pos rfl, if_pos (by omega), a4]
 rw [if_neg c4]
 by_cases c3 : k = 3 * n + i
 ·subst c3; rw [if_pos rfl, if_pos (by omega), a3]
 rw [if_neg c3]
 by_cases c2 : k = 2 * n + i
 ·subst c2; rw [if_pos rfl, if_pos (by omega), a2]
 rw [if_neg c2]
 by_cases c1 : k = n + i
 ·subst c1; rw [if_pos rfl, if_pos (by omega), a1]
 rw [if_neg c1]
 by_cases c0 : k = i
 ·subst c0; rw [if_pos rfl, if_pos (by omega), a0]
 rw [if_neg c0]
 by_cases h7 : k < 7 * n
 ·rw [if_pos h7]
  exact eI_same c0 c1 c2 c3 c4 c5 (h6 h7) h7
 ·rw [if_neg h7, if_neg (by omega), eI_last h7]
theorem midI_zero (hn : 0 < n) : midI E Rr n 0 k = eH E Rr n 0 0 k := midI_at hn fun _ h => by omega
theorem midI_pos (hi : i < n) (h0 : 0 < i) : sett8 (midI E Rr n i) (6 * n + i - 1) (E (6 * n + i - 1)) k = eH E Rr n i 0 k := by
 by_cases c6 : k = 6 * n + i - 1
 ·subst c6
  unfold sett8 eH
  rw [if_pos rfl, if_pos (by omega), (eI_new (E := E) (Rr := Rr) hi).2.2.2.2.2.2 h0]
 ·show (if k = 6 * n + i - 1 then _ else midI E Rr n i k) = _
  rw [if_neg c6]
  exact midI_at hi fun _ _ => by omega
theorem eH_next {c : Nat} : sett8 (eH E Rr n i c) (7 * n + c) (Rr c (i + 1)) k = eH E Rr n i (c + 1) k := by
 unfold sett8 eH
 by_cases h : k = 7 * n + c
 ·subst h
  rw [if_pos rfl, if_neg (by omega), if_pos (by omega), show 7 * n + c - 7 * n = c by omega]
 ·rw [if_neg h]
  by_cases h7 : k < 7 * n
  ·rw [if_pos h7, if_pos h7]
  ·rw [if_neg h7, if_neg h7]
   by_cases h8 : k < 7 * n + c
   ·rw [if_pos h8, if_pos (by omega)]
   ·rw [if_neg h8, if_neg (by omega)]
theorem eH_at {c : Nat} : eH E Rr n i c (7 * n + c) = Rr c i := by
 unfold eH
 rw [if_neg (by omega), if_neg (by omega), show 7 * n + c - 7 * n = c by omega]
theorem eH_done (hk : k < 7 * n + 3) : eH E Rr n i 3 k = eI E Rr n (i + 1) k := by
 unfold eH
 by_cases h7 : k < 7 * n
 ·rw [if_pos h7]
 ·rw [if_neg h7, if_pos hk, eI_last h7]
theorem eI_zero (hR : ∀ w, Rr w 0 = 0) : eI E Rr n 0 k = 0 := by
 by_cases h7 : k < 7 * n
 ·unfold eI
  simp only [Nat.not_lt_zero, if_false, if_pos h7, ite_self]
 ·rw [eI_last h7, hR]
theorem eI_done (hn : 0 < n) (hE : ∀ w, w < 3 -> Rr w n = E (7 * n + w)) (hk : k < 7 * n + 3) : sett8 (eI E Rr n n) (7 * n - 1) (E (7 * n - 1)) k = E k := by
 unfold sett8
 by_cases h : k = 7 * n - 1
 ·subst h; rw [if_pos rfl]
 rw [if_neg h]
 by_cases h7 : k < 7 * n
 ·unfold eI
  by_cases c1 : k < n
  ·rw [if_pos c1, if_pos c1]
  rw [if_neg c1]
  by_cases c2 : k < 2 * n
  ·rw [if_pos c2, if_pos (by omega)]
  rw [if_neg c2]
  by_cases c3 : k < 3 * n
  ·rw [if_pos c3, if_pos (by omega)]
  rw [if_neg c3]
  by_cases c4 : k < 4 * n
  ·rw [if_pos c4, if_pos (by omega)]
  rw [if_neg c4]
  by_cases c5 : k < 5 * n
  ·rw [if_pos c5, if_pos (by omega)]
  rw [if_neg c5]
  by_cases c6 : k < 6 * n
  ·rw [if_pos c6, if_pos (by omega)]
  rw [if_neg c6, if_pos (by omega), if_pos (by omega)]
 ·rw [eI_last h7, hE _ (by omega), show 7 * n + (k - 7 * n) = k by omega]
end
theorem exF_at {Q X Y Z : Int} {n : Nat} {o : Nat -> Nat} {R S T : NI} {Rho : NN} {i : Nat} (hi : i < n) : exF Q X Y Z n o R S T Rho i = ((o i : Int) + 1) % Q /\ exF Q X Y Z n o R S T Rho (n + i) = R i % Q /\ exF Q X Y Z n o R S T Rho (2 * n + i) = bE Q X o i /\ exF Q X Y Z n o R S T Rho (3 * n + i) = S i % Q /\ exF Q X Y Z n o R S T Rho (4 * n + i) = dE Q X Y Z o i /\ exF Q X Y Z n o R S T Rho (5 * n + i) = uE Q Y R S i /\ (0 < i -> exF Q X Y Z n o R S T Rho (6 * n + i - 1) = T i % Q) := by
 unfold exF
 refine ⟨?_, ?_, ?_, ?_, ?_, ?_, fun h0 => ?_⟩
 ·rw [if_pos hi]
 ·rw [if_neg (by omega), if_pos (by omega), show n + i - n = i by omega]
 ·rw [if_neg (by omega), if_neg (by omega), if_pos (by omega), show 2 * n + i - 2 * n = i by omega]
 ·rw [if_neg (by omega), if_neg (by omega), if_neg (by omega), if_pos (by omega), show 3 * n + i - 3 * n = i by omega]
 ·rw [if_neg (by omega), if_neg (by omega), if_neg (by omega), if_neg (by omega), if_pos (by omega), show 4 * n + i - 4 * n = i by omega]
 ·rw [if_neg (by omega), if_neg (by omega), if_neg (by omega), if_neg (by omega), if_neg (by omega), if_pos (by omega), show 5 * n + i - 5 * n = i by omega]
 ·rw [if_neg (by omega), if_neg (by omega), if_neg (by omega), if_neg (by omega), if_neg (by omega), if_neg (by omega), if_pos (by omega), show 6 * n + i - 1 - 6 * n + 1 = i by omega]
theorem exF_end {Q X Y Z : Int} {n : Nat} {o : Nat -> Nat} {R S T : NI} {Rho : NN} (hn : 0 < n) : exF Q X Y Z n o R S T Rho (7 * n - 1) = vE Q X Y Z o R S T (n - 1) /\ ∀ w, w < 3 -> rhoE Q X o Rho w n = exF Q X Y Z n o R S T Rho (7 * n + w) := by
 unfold exF
 refine ⟨?_, fun w hw => ?_⟩
 ·rw [if_neg (by omega), if_neg (by omega), if_neg (by omega), if_neg (by omega), if_neg (by omega), if_neg (by omega), if_neg (by omega), if_pos rfl]
 ·rw [if_neg (by omega), if_neg (by omega), if_neg (by omega), if_neg (by omega), if_neg (by omega), if_neg (by omega), if_neg (by omega), if_neg (by omega), show 7 * n + w - 7 * n = w by omega]
def vP (Q X Y Z : Int) (o : Nat -> Nat) (R S T : NI) : Nat -> Int
 | 0 => 0
 | i + 1 => vE Q X Y Z o R S T i
theorem vP_next {Q X Y Z : Int} {o : Nat -> Nat} {R S T : NI} : ∀ {i : Nat}, 0 < i -> vP Q X Y Z o R S T (i + 1) = addI (mulI (vP Q X Y Z o R S T i) (dE Q X Y Z o i) Q) (T i) Q
 | 0, h => absurd h (Nat.lt_irrefl 0)
 | i + 1, _ => rfl
end
section
open Go.RowKit Go.ChangeShapes Go.WideShapes Go.Deep
section
variable {H : Type} {enc : TypeId × Value -> H} {P : Program} {w : World}
theorem zdt {t e : TypeId} {sz : Nat} (mk : Int -> Value) (Bd : Int -> Prop) (hsz : 0 < sz) (ht : P.underlying t = some (.slice e)) (ce : P.cellsOf e = sz)
  (dec : ∀ (fuel : Nat) (cs : List Value) (x : DataW H × List MemPlace), DataW.trod enc P w 0 (fun _ => true) true fuel e cs = some x -> ∃ F : Nat -> Int, ∀ k, k < sz -> cs[k]? = some (mk (F k)) /\ Bd (F k))
  {fuel : Nat} {v : Value} {x : DataW H × List MemPlace} (h : DataW.trod enc P w 0 (fun _ => true) true fuel t [v] = some x) :
  ∃ (a : OA) (n cap : Nat) (F : NN), v = .slice a n cap /\ n <= cap /\ cap <= 9223372036854775807 /\ (n = 0 ∨ ∃ b off, a = some ⟨b, off, none⟩ /\ b < w.heap.size /\ ∀ j, j < n -> ∀ k, k < sz -> w.cell? ⟨b, off + j * sz + k, none⟩ = some (mk (F j k)) /\ Bd (F j k)) := by
 rcases open_slice ht h with ⟨hcs, _⟩ | ⟨a', len, cap', m, k, D, Pl, hcs, _, hl, hm, hmm, _, hx⟩
 ·exact ⟨none, 0, 0, fun _ _ => 0, by simpa using hcs, Nat.le_refl _, Nat.zero_le _, Or.inl rfl⟩
 simp only [if_true] at hmm
 subst hmm
 unfold maxLen at hm
 have hv : v = .slice (some a') len m := by simpa using hcs
 by_cases h0 : len = 0
 ·exact ⟨some a', len, m, fun _ _ => 0, hv, hl, by omega, Or.inl h0⟩
 rw [ce] at hx
 obtain ⟨b, off, spot⟩ := a'
 have hspot : spot = none := by
  obtain ⟨cs0, hc0, _⟩ := hx 0 (by omega)
  obtain ⟨_, hlen, hcell⟩ := World.cells?_some hc0
  have g := hcell 0 (by omega)
  have : ∃ v, cs0[0]? = some v := ⟨cs0[0], by simp⟩
  obtain ⟨v, hv⟩ := this
  rw [hv] at g
  simpa [Addr.add] using World.cell?_spot g
 subst hspot
 have each : ∀ i, i < m -> ∃ y : Nat -> Int, ∀ k, k < sz -> w.cell? ⟨b, off + i * sz + k, none⟩ = some (mk (y k)) /\ Bd (y k) := by
  intro i hi
  obtain ⟨cs', h1, h2⟩ := hx i hi
  obtain ⟨_, hlen, hcell⟩ := World.cells?_some h1
  obtain ⟨F, hF⟩ := dec _ _ _ h2
  refine ⟨F, fun k hk => ⟨?_, (hF k hk).2⟩⟩
  have c0 := hcell k (by omega)
  simp only [add_plain] at c0
  rw [c0]
  exact (hF k hk).1
 obtain ⟨y, hy⟩ := choose_lt each
 exact ⟨some ⟨b, off, none⟩, len, m, y, hv, hl, by omega, Or.inr ⟨b, off, rfl, cell_lt (hy 0 (by omega) 0 hsz).1, fun i hi => hy i (by omega)⟩⟩
theorem open_boxes8 {t e p u : TypeId} {f0 f1 : Field} (ht : P.underlying t = some (.slice e)) (he : P.underlying e = some (.array 3 p)) (hp : P.underlying p = some (.struct #[f0, f1])) (hu : P.underlying u = some (.int .u64)) (o0 : f0.offset = 0) (o1 : f1.offset = 1) (t0 : f0.type = u) (t1 : f1.type = u) (ce : P.cellsOf e = 6) (cp : P.cellsOf p = 2) (cu : P.cellsOf u = 1)
  {fuel : Nat} {v : Value} {x : DataW H × List MemPlace} (h : DataW.trod enc P w 0 (fun _ => true) true fuel t [v] = some x) :
  ∃ (a : OA) (n cap : Nat) (C : NN), v = .slice a n cap /\ n <= cap /\ cap <= 9223372036854775807 /\ BoxsIn w a n C :=
 zdt (.int .u64) U64 (by omega) ht ce (fun fuel cs x h => by
  obtain ⟨xs, n, _, _, hl, hlx, hi⟩ := DataW.trod_array he h
  rw [ce] at hl
  have g0 := hi 0 (by omega)
  have g1 := hi 1 (by omega)
  have g2 := hi 2 (by omega)
  rw [cp, List.getElem?_eq_getElem (by omega)] at g0 g1 g2
  match cs, hl with
  | [a, b, c, d', e', f'], _ =>
   simp at g0 g1 g2
   obtain ⟨x0, y0, e0, a0, b0⟩ := zf7 hp hu o0 o1 t0 t1 cp cu g0
   obtain ⟨x1, y1, e1, a1, b1⟩ := zf7 hp hu o0 o1 t0 t1 cp cu g1
   obtain ⟨x2, y2, e2, a2, b2⟩ := zf7 hp hu o0 o1 t0 t1 cp cu g2
   simp at e0 e1 e2
   obtain ⟨rfl, rfl⟩ := e0
   obtain ⟨rfl, rfl⟩ := e1
   obtain ⟨rfl, rfl⟩ := e2
   refine ⟨fun k => [x0, y0, x1, y1, x2, y2].getD k 0, fun k hk => ?_⟩
   match k, hk with
   | 0, _ => exact ⟨rfl, a0⟩
   | 1, _ => exact ⟨rfl, b0⟩
   | 2, _ => exact ⟨rfl, a1⟩
   | 3, _ => exact ⟨rfl, b1⟩
   | 4, _ => exact ⟨rfl, a2⟩
   | 5, _ => exact ⟨rfl, b2⟩) h
theorem open_rhos8 {t e u : TypeId} (ht : P.underlying t = some (.slice e)) (he : P.underlying e = some (.array 3 u)) (hu : P.underlying u = some (.int .u64)) (ce : P.cellsOf e = 3) (cu : P.cellsOf u = 1)
  {fuel : Nat} {v : Value} {x : DataW H × List MemPlace} (h : DataW.trod enc P w 0 (fun _ => true) true fuel t [v] = some x) :
  ∃ (a : OA) (n cap : Nat) (R : NN), v = .slice a n cap /\ n <= cap /\ cap <= 9223372036854775807 /\ RhoIn w a n R :=
 zdt (.int .u64) U64 (by omega) ht ce (fun fuel cs x h => by
  obtain ⟨a, b, c, rfl, h0, h1, h2⟩ := arr3_cells he hu cu ce h
  refine ⟨fun k => [a, b, c].getD k 0, fun k hk => ?_⟩
  match k, hk with
  | 0, _ => exact ⟨rfl, h0⟩
  | 1, _ => exact ⟨rfl, h1⟩
  | 2, _ => exact ⟨rfl, h2⟩) h
theorem open_order8 {t e : TypeId} (ht : P.underlying t = some (.slice e)) (he : P.underlying e = some (.int .i64)) (ce : P.cellsOf e = 1)
  {fuel : Nat} {v : Value} {x : DataW H × List MemPlace} (h : DataW.trod enc P w 0 (fun _ => true) true fuel t [v] = some x) :
  ∃ (a : OA) (n cap : Nat) (O : NI), v = .slice a n cap /\ n <= cap /\ cap <= 9223372036854775807 /\ IntsIn w a n O := by
 obtain ⟨a, n, cap, F, e1, q1, q2, hF⟩ := zdt (.int .i64) (fun x => -9223372036854775808 <= x /\ x <= 9223372036854775807) (by omega) ht ce (fun fuel cs x h => by
  obtain ⟨x, hx, _, hw⟩ := DataW.trod_int he h
  subst hx
  refine ⟨fun _ => x, fun k hk => ?_⟩
  have : k = 0 := by omega
  subst this
  exact ⟨rfl, (bounds_i64 hw).1, (bounds_i64 hw).2⟩) h
 refine ⟨a, n, cap, fun j => F j 0, e1, q1, q2, ?_⟩
 rcases hF with h0 | ⟨b, off, ha, hb, hc⟩
 ·exact Or.inl h0
 ·exact Or.inr ⟨b, off, ha, hb, fun j hj => by have := hc j hj 0 (by omega); rwa [Nat.mul_one, Nat.add_zero] at this⟩
theorem zcw {t u : TypeId} (ht : P.underlying t = some (.slice u)) (hu : P.underlying u = some (.int .u64)) (cu : P.cellsOf u = 1) {fuel : Nat} {v : Value} {x : DataW H × List MemPlace} (h : DataW.trod enc P w 0 (fun _ => true) true fuel t [v] = some x) :
  ∃ (a : OA) (n cap : Nat) (F : NI), v = .slice a n cap /\ n <= cap /\ cap <= 9223372036854775807 /\ FacsIn w a n F := by
 obtain ⟨a, n, cap, F, e, q1, q2, hF⟩ := open_facs ht hu cu h
 unfold maxLen at q2
 exact ⟨a, n, cap, F, e, q1, by omega, hF⟩
def DrawsIn (w : World) (bρ : OA) (nρ cρ : Nat) (Rh : NN) (bR : OA) (nR cR : Nat) (R : NI) (bS : OA) (nS cS : Nat) (S : NI) (bT : OA) (nT cT : Nat) (T : NI) (bD : OA) (nD cD : Nat) (D : NI) : Prop :=
 RhoIn w bρ nρ Rh /\ FacsIn w bR nR R /\ FacsIn w bS nS S /\ (nT <= cT /\ cT <= 9223372036854775807) /\ FacsIn w bT nT T /\ (nD <= cD /\ cD <= 9223372036854775807) /\ FacsIn w bD nD D
theorem draws_cells {t r ar s u : TypeId} {f0 f1 f2 f3 f4 : Field} (ht : P.underlying t = some (.struct #[f0, f1, f2, f3, f4])) (hr : P.underlying r = some (.slice ar)) (har : P.underlying ar = some (.array 3 u)) (hs : P.underlying s = some (.slice u)) (hu : P.underlying u = some (.int .u64)) (o0 : f0.offset = 0) (o1 : f1.offset = 1) (o2 : f2.offset = 2) (o3 : f3.offset = 3) (o4 : f4.offset = 4) (t0 : f0.type = r) (t1 : f1.type = s) (t2 : f2.type = s) (t3 : f3.type = s) (t4 : f4.type = s) (ct : P.cellsOf t = 5) (cr : P.cellsOf r = 1) (car : P.cellsOf ar = 3) (cs1 : P.cellsOf s = 1) (cu : P.cellsOf u = 1) {fuel : Nat} {cs : List Value} {x : DataW H × List MemPlace} (h : DataW.trod enc P w 0 (fun _ => true) true fuel t cs = some x) :
  ∃ bρ nρ cρ Rh bR nR cR R bS nS cS S bT nT cT T bD nD cD D, cs = [.slice bρ nρ cρ, .slice bR nR cR, .slice bS nS cS, .slice bT nT cT, .slice bD nD cD] /\ DrawsIn w bρ nρ cρ Rh bR nR cR R bS nS cS S bT nT cT T bD nD cD D := by
 obtain ⟨xs, n, _, _, hl, hlen, hf⟩ := DataW.trod_struct ht h
 rw [ct] at hl
 have g0 := hf 0 f0 rfl
 have g1 := hf 1 f1 rfl
 have g2 := hf 2 f2 rfl
 have g3 := hf 3 f3 rfl
 have g4 := hf 4 f4 rfl
 have hlen : xs.length = 5 := hlen
 rw [List.getElem?_eq_getElem (by omega)] at g0 g1 g2 g3 g4
 match cs, hl with
 | [a, b, c, d, e], _ =>
  simp [o0, o1, o2, o3, o4, t0, t1, t2, t3, t4, cr, cs1] at g0 g1 g2 g3 g4
  obtain ⟨bρ, nρ, cρ, Rh, rfl, _, _, h0⟩ := open_rhos8 hr har hu car cu g0
  obtain ⟨bR, nR, cR, R, rfl, _, _, h1⟩ := zcw hs hu cu g1
  obtain ⟨bS, nS, cS, S, rfl, _, _, h2⟩ := zcw hs hu cu g2
  obtain ⟨bT, nT, cT, T, rfl, p3, q3, h3⟩ := zcw hs hu cu g3
  obtain ⟨bD, nD, cD, D, rfl, p4, q4, h4⟩ := zcw hs hu cu g4
  exact ⟨bρ, nρ, cρ, Rh, bR, nR, cR, R, bS, nS, cS, S, bT, nT, cT, T, bD, nD, cD, D, rfl, h0, h1, h2, ⟨p3, q3⟩, h3, ⟨p4, q4⟩, h4⟩
theorem open_job8 {t st bx e p o ii dt r ar s u : TypeId} {f0 f1 f2 f3 f4 g0 g1 d0 d1 d2 d3 d4 : Field} (ht : P.underlying t = some (.struct #[f0, f1, f2, f3, f4])) (hst : P.underlying st = some .string) (hbx : P.underlying bx = some (.slice e)) (he : P.underlying e = some (.array 3 p)) (hp : P.underlying p = some (.struct #[g0, g1])) (ho : P.underlying o = some (.slice ii)) (hi : P.underlying ii = some (.int .i64)) (hd : P.underlying dt = some (.struct #[d0, d1, d2, d3, d4])) (hr : P.underlying r = some (.slice ar)) (har : P.underlying ar = some (.array 3 u)) (hs : P.underlying s = some (.slice u)) (hu : P.underlying u = some (.int .u64))
  (fo : f0.offset = 0 /\ f1.offset = 1 /\ f2.offset = 2 /\ f3.offset = 3 /\ f4.offset = 4) (ft : f0.type = st /\ f1.type = u /\ f2.type = bx /\ f3.type = o /\ f4.type = dt) (go : g0.offset = 0 /\ g1.offset = 1 /\ g0.type = u /\ g1.type = u) (dof : d0.offset = 0 /\ d1.offset = 1 /\ d2.offset = 2 /\ d3.offset = 3 /\ d4.offset = 4) (dty : d0.type = r /\ d1.type = s /\ d2.type = s /\ d3.type = s /\ d4.type = s)
  (cc : P.cellsOf t = 9 /\ P.cellsOf st = 1 /\ P.cellsOf bx = 1 /\ P.cellsOf e = 6 /\ P.cellsOf p = 2 /\ P.cellsOf o = 1 /\ P.cellsOf ii = 1 /\ P.cellsOf dt = 5 /\ P.cellsOf r = 1 /\ P.cellsOf ar = 3 /\ P.cellsOf s = 1 /\ P.cellsOf u = 1) {v : Value} {d : DataW H} {pl : List MemPlace} (h : DataW.Trod enc P w 0 (fun _ => true) true t v d pl) :
  ∃ (label : List Int) (y : Int) (bi : OA) (l ci : Nat) (C : NN) (bo : OA) (no co : Nat) (O : NI) (bρ : OA) (nρ cρ : Nat) (Rh : NN) (bR : OA) (nR cR : Nat) (R : NI) (bS : OA) (nS cS : Nat) (S : NI) (bT : OA) (nT cT : Nat) (T : NI) (bD : OA) (nD cD : Nat) (D : NI),
   v = jv label y bi l ci bo no co bρ nρ cρ bR nR cR bS nS cS bT nT cT bD nD cD /\ Bts label /\ U64 y /\ BoxsIn w bi l C /\ IntsIn w bo no O /\ DrawsIn w bρ nρ cρ Rh bR nR cR R bS nS cS S bT nT cT T bD nD cD D /\ (l <= ci /\ ci <= 9223372036854775807) /\ (no <= co /\ co <= 9223372036854775807) := by
 obtain ⟨m, hm⟩ := h
 obtain ⟨xs, n, _, _, hl, hlen, hf⟩ := DataW.trod_struct ht hm
 rw [cc.1] at hl
 have k0 := hf 0 f0 rfl
 have k1 := hf 1 f1 rfl
 have k2 := hf 2 f2 rfl
 have k3 := hf 3 f3 rfl
 have k4 := hf 4 f4 rfl
 have hlen : xs.length = 5 := hlen
 rw [List.getElem?_eq_getElem (by omega)] at k0 k1 k2 k3 k4
 obtain ⟨o0, o1, o2, o3, o4⟩ := fo
 obtain ⟨t0, t1, t2, t3, t4⟩ := ft
 obtain ⟨_, cst, cbx, ce, cp, co, ci, cdt, cr, car, cs, cu⟩ := cc
 cases v with
 | agg c =>
  obtain ⟨lst⟩ := c
  match lst, hl with
  | [a, b, c, d, e1, e2, e3, e4, e5], _ =>
   simp [Value.cells, o0, o1, o2, o3, o4, t0, t1, t2, t3, t4, cst, cbx, co, cdt, cu] at k0 k1 k2 k3 k4
   obtain ⟨lab, rfl, hb⟩ := open_str hst k0
   obtain ⟨y, rfl, by_⟩ := zcx hu k1
   obtain ⟨bi, l, ci2, C, rfl, p2, q2, h2⟩ := open_boxes8 hbx he hp hu go.1 go.2.1 go.2.2.1 go.2.2.2 ce cp cu k2
   obtain ⟨bo, no, co2, O, rfl, p3, q3, h3⟩ := open_order8 ho hi ci k3
   obtain ⟨bρ, nρ, cρ, Rh, bR, nR, cR, R, bS, nS, cS, S, bT, nT, cT, T, bD, nD, cD, D, ecs, hdr⟩ := draws_cells hd hr har hs hu dof.1 dof.2.1 dof.2.2.1 dof.2.2.2.1 dof.2.2.2.2 dty.1 dty.2.1 dty.2.2.1 dty.2.2.2.1 dty.2.2.2.2 cdt cr car cs cu k4
   simp at ecs
   obtain ⟨rfl, rfl, rfl, rfl, rfl⟩ := ecs
   exact ⟨lab, y, bi, l, ci2, C, bo, no, co2, O, bρ, nρ, cρ, Rh, bR, nR, cR, R, bS, nS, cS, S, bT, nT, cT, T, bD, nD, cD, D, rfl, hb, by_, h2, h3, hdr, ⟨p2, q2⟩, ⟨p3, q3⟩⟩
 | _ => simp [Value.cells] at hl
end
end
end Go.Proofs.YtlnmjbbpenhdbaaGreat
