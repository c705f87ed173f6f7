/-
  What the proof needs, part 11.
-/
import Derived.Test.YtlnmjbbpenhdbaaGreatKp10
namespace Go.Proofs.YtlnmjbbpenhdbaaGreat
open Tryz
open List renaming set_cons_zero → zs0, set_cons_succ → zs1, drop_succ_cons → zd1, drop_zero → zd0, drop_nil → zdn
open Tryz renaming underlying29 → U29
set_option linter.unusedSimpArgs false
set_option linter.unusedVariables false
set_option maxRecDepth 100000
set_option maxHeartbeats 32000000
section
open Go.RowKit
def drwB (n nR nS nT nD : Nat) : Bool := decide (nR = n) && decide (nS = n) && decide (nT = n) && decide (nD = 7 * n + 3)
theorem zb4 {n nR nS nT nD : Nat} : drwB n nR nS nT nD = true ↔ nR = n /\ nS = n /\ nT = n /\ nD = 7 * n + 3 := by
 unfold drwB
 simp only [Bool.and_eq_true_iff, decide_eq_true_eq, and_assoc]
theorem zbQ {p q : Nat} (h : p = q) : Value.bool ((p : Int) == (q : Int)) = .bool true := by subst h; simp
theorem eq_no8 {p q : Nat} (h : ¬ p = q) : Value.bool ((p : Int) == (q : Int)) = .bool false := by
 have : ¬ (p : Int) = (q : Int) := by omega
 simp [this]
theorem zfb (bρ : OA) (nρ cρ : Nat) (bR : OA) (nR cR : Nat) (bS : OA) (nS cS : Nat) (bT : OA) (nT cT : Nat) (bD : OA) (nD cD n : Nat) (w : World) (hn : n <= 8) :
  Calls prog 88 #[dv bρ nρ cρ bR nR cR bS nS cS bT nT cT bD nD cD, .int .i64 (n : Int)] w (Ret w (.bool (drwB n nR nS nT nD))) := by
 have HSz : Hid (∀ wx, Calls prog 125 #[.int .i64 (n : Int)] wx (Ret wx (.int .i64 ((7 * n + 3 : Nat) : Int)))) := fun wx => ssize_any n wx (by omega)
 have HZ := lain1 w (dvc bρ nρ cρ bR nR cR bS nS cS bT nT cT bD nD cD) 31
 have HD0 := fun w' ho => (HZ.then (W' := w') ho).row 0 (by simp)
 have HW0 := hid HZ.old
 clear HZ
 have HD0h := hid HD0
 clear HD0
 by_cases hR : nR = n
 rotate_left
 ·have HV : Hid (drwB n nR nS nT nD = false) := by unfold Hid drwB; simp [hR]
  have HeR := hid (eq_no8 hR)
  clear hR
  go_enter func88, ntmps88
  go_upto_region 1 with fail
  generalize w.alloc (.cells (dvc bρ nρ cρ bR nR cR bS nS cS bT nT cT bD nD cD) 31) = W1 at *
  have HG := hid HD0h
  clear HD0h
  generalize w.heap.size = gb at *
  refine zaa 28 [.k (.pointer (some ⟨gb, 1, none⟩)), .k (.slice bR nR cR), .k (.int .i64 (nR : Nat)), .k (.int .i64 (n : Int)), .k (.bool false), .k (.bool false), .k undef, .k undef, .k undef, .k undef, .k undef, .k (.bool false), .k (.bool false), .k undef, .k undef, .k undef, .k undef, .k undef, .k (.bool false), .k (.bool false), .k undef, .k undef, .k undef, .k undef, .k undef, .k undef, .k (.bool false), .k (.bool false)] (Old W1) (by kernel_rfl) (by kernel_rfl) rfl ((Old.refl _).drew) ?st ?_
  case st =>
   refine .p <| .c (stf 1 U29 HG.out) <| .p <| .p <| .c (stv (v' := .bool (((nR : Nat) : Int) == ((n : Nat) : Int))) HeR.out) <| .p <| .c stn <| .c stn <| .c stn <| .c stn <| .c stn <| .p <| .p <| .c stn <| .c stn <| .c stn <| .c stn <| .c stn <| .p <| .p <| .c stn <| .c stn <| .c stn <| .c stn <| .c stn <| .c stn <| .p <| .c stp .n
  intro t wx hR hk
  simp only [fill, Ent.val, zs0, zs1, zd1, zd0, zdn]
  go_wp2_with fail
  go_ret
  exact ⟨by rw [HV.out]; rfl, HW0.out.trans hR⟩
 by_cases hS : nS = n
 rotate_left
 ·have HV : Hid (drwB n nR nS nT nD = false) := by unfold Hid drwB; simp [hS]
  have HeR := hid (zbQ hR)
  have HeS := hid (eq_no8 hS)
  clear hR hS
  go_enter func88, ntmps88
  go_upto_region 1 with fail
  generalize w.alloc (.cells (dvc bρ nρ cρ bR nR cR bS nS cS bT nT cT bD nD cD) 31) = W1 at *
  have HG := hid HD0h
  clear HD0h
  generalize w.heap.size = gb at *
  refine zaa 28 [.k (.pointer (some ⟨gb, 1, none⟩)), .k (.slice bR nR cR), .k (.int .i64 (nR : Nat)), .k (.int .i64 (n : Int)), .k (.bool true), .k (.bool true), .k (.pointer (some ⟨gb, 2, none⟩)), .k (.slice bS nS cS), .k (.int .i64 (nS : Nat)), .k (.int .i64 (n : Int)), .k (.bool false), .k (.bool false), .k (.bool false), .k undef, .k undef, .k undef, .k undef, .k undef, .k (.bool false), .k (.bool false), .k undef, .k undef, .k undef, .k undef, .k undef, .k undef, .k (.bool false), .k (.bool false)] (Old W1) (by kernel_rfl) (by kernel_rfl) rfl ((Old.refl _).drew) ?st ?_
  case st =>
   refine .p <| .c (stf 1 U29 HG.out) <| .p <| .p <| .c (stv (v' := .bool (((nR : Nat) : Int) == ((n : Nat) : Int))) HeR.out) <| .p <| .p <| .c (stf 2 U29 HG.out) <| .p <| .p <| .c (stv (v' := .bool (((nS : Nat) : Int) == ((n : Nat) : Int))) HeS.out) <| .p <| .p <| .c stn <| .c stn <| .c stn <| .c stn <| .c stn <| .p <| .p <| .c stn <| .c stn <| .c stn <| .c stn <| .c stn <| .c stn <| .p <| .c stp .n
  intro t wx hR hk
  simp only [fill, Ent.val, zs0, zs1, zd1, zd0, zdn]
  go_wp2_with fail
  go_ret
  exact ⟨by rw [HV.out]; rfl, HW0.out.trans hR⟩
 by_cases hT : nT = n
 rotate_left
 ·have HV : Hid (drwB n nR nS nT nD = false) := by unfold Hid drwB; simp [hT]
  have HeR := hid (zbQ hR)
  have HeS := hid (zbQ hS)
  have HeT := hid (eq_no8 hT)
  clear hR hS hT
  go_enter func88, ntmps88
  go_upto_region 1 with fail
  generalize w.alloc (.cells (dvc bρ nρ cρ bR nR cR bS nS cS bT nT cT bD nD cD) 31) = W1 at *
  have HG := hid HD0h
  clear HD0h
  generalize w.heap.size = gb at *
  refine zaa 28 [.k (.pointer (some ⟨gb, 1, none⟩)), .k (.slice bR nR cR), .k (.int .i64 (nR : Nat)), .k (.int .i64 (n : Int)), .k (.bool true), .k (.bool true), .k (.pointer (some ⟨gb, 2, none⟩)), .k (.slice bS nS cS), .k (.int .i64 (nS : Nat)), .k (.int .i64 (n : Int)), .k (.bool true), .k (.bool true), .k (.bool true), .k (.pointer (some ⟨gb, 3, none⟩)), .k (.slice bT nT cT), .k (.int .i64 (nT : Nat)), .k (.int .i64 (n : Int)), .k (.bool false), .k (.bool false), .k (.bool false), .k undef, .k undef, .k undef, .k undef, .k undef, .k undef, .k (.bool false), .k (.bool false)] (Old W1) (by kernel_rfl) (by kernel_rfl) rfl ((Old.refl _).drew) ?st ?_
  case st =>
   refine .p <| .c (stf 1 U29 HG.out) <| .p <| .p <| .c (stv (v' := .bool (((nR : Nat) : Int) == ((n : Nat) : Int))) HeR.out) <| .p <| .p <| .c (stf 2 U29 HG.out) <| .p <| .p <| .c (stv (v' := .bool (((nS : Nat) : Int) == ((n : Nat) : Int))) HeS.out) <| .p <| .p <| .p <| .c (stf 3 U29 HG.out) <| .p <| .p <| .c (stv (v' := .bool (((nT : Nat) : Int) == ((n : Nat) : Int))) HeT.out) <| .p <| .p <| .c stn <| .c stn <| .c stn <| .c stn <| .c stn <| .c stn <| .p <| .c stp .n
  intro t wx hR hk
  simp only [fill, Ent.val, zs0, zs1, zd1, zd0, zdn]
  go_wp2_with fail
  go_ret
  exact ⟨by rw [HV.out]; rfl, HW0.out.trans hR⟩
 by_cases hD : nD = 7 * n + 3
 rotate_left
 ·have HV : Hid (drwB n nR nS nT nD = false) := by unfold Hid drwB; simp [hD]
  have HeR := hid (zbQ hR)
  have HeS := hid (zbQ hS)
  have HeT := hid (zbQ hT)
  have HeD := hid (eq_no8 hD)
  clear hR hS hT hD
  go_enter func88, ntmps88
  go_upto_region 1 with fail
  generalize w.alloc (.cells (dvc bρ nρ cρ bR nR cR bS nS cS bT nT cT bD nD cD) 31) = W1 at *
  have HG := hid HD0h
  clear HD0h
  generalize w.heap.size = gb at *
  refine zaa 28 [.k (.pointer (some ⟨gb, 1, none⟩)), .k (.slice bR nR cR), .k (.int .i64 (nR : Nat)), .k (.int .i64 (n : Int)), .k (.bool true), .k (.bool true), .k (.pointer (some ⟨gb, 2, none⟩)), .k (.slice bS nS cS), .k (.int .i64 (nS : Nat)), .k (.int .i64 (n : Int)), .k (.bool true), .k (.bool true), .k (.bool true), .k (.pointer (some ⟨gb, 3, none⟩)), .k (.slice bT nT cT), .k (.int .i64 (nT : Nat)), .k (.int .i64 (n : Int)), .k (.bool true), .k (.bool true), .k (.bool true), .k (.pointer (some ⟨gb, 4, none⟩)), .k (.slice bD nD cD), .k (.int .i64 (nD : Nat)), .k (.int .i64 (n : Int)), .k (.int .i64 ((7 * n + 3 : Nat) : Int)), .k (.bool false), .k (.bool false), .k (.bool false)] (Old W1) (by kernel_rfl) (by kernel_rfl) rfl ((Old.refl _).drew) ?st ?_
  case st =>
   refine .p <| .c (stf 1 U29 HG.out) <| .p <| .p <| .c (stv (v' := .bool (((nR : Nat) : Int) == ((n : Nat) : Int))) HeR.out) <| .p <| .p <| .c (stf 2 U29 HG.out) <| .p <| .p <| .c (stv (v' := .bool (((nS : Nat) : Int) == ((n : Nat) : Int))) HeS.out) <| .p <| .p <| .p <| .c (stf 3 U29 HG.out) <| .p <| .p <| .c (stv (v' := .bool (((nT : Nat) : Int) == ((n : Nat) : Int))) HeT.out) <| .p <| .p <| .p <| .c (stf 4 U29 HG.out) <| .p <| .p <| .c (stK old_R func125 (fun wx _ => HSz.out wx)) <| .c (stv (v' := .bool (((nD : Nat) : Int) == ((7 * n + 3 : Nat) : Int))) HeD.out) <| .p <| .c stp .n
  intro t wx hR hk
  simp only [fill, Ent.val, zs0, zs1, zd1, zd0, zdn]
  go_wp2_with fail
  go_ret
  exact ⟨by rw [HV.out]; rfl, HW0.out.trans hR⟩
 have HV := hid (zb4.2 ⟨hR, hS, hT, hD⟩)
 have HeR := hid (zbQ hR)
 have HeS := hid (zbQ hS)
 have HeT := hid (zbQ hT)
 have HeD := hid (zbQ hD)
 clear hR hS hT hD
 go_enter func88, ntmps88
 go_upto_region 1 with fail
 generalize w.alloc (.cells (dvc bρ nρ cρ bR nR cR bS nS cS bT nT cT bD nD cD) 31) = W1 at *
 have HG := hid HD0h
 clear HD0h
 generalize w.heap.size = gb at *
 refine zaa 28 [.k (.pointer (some ⟨gb, 1, none⟩)), .k (.slice bR nR cR), .k (.int .i64 (nR : Nat)), .k (.int .i64 (n : Int)), .k (.bool true), .k (.bool true), .k (.pointer (some ⟨gb, 2, none⟩)), .k (.slice bS nS cS), .k (.int .i64 (nS : Nat)), .k (.int .i64 (n : Int)), .k (.bool true), .k (.bool true), .k (.bool true), .k (.pointer (some ⟨gb, 3, none⟩)), .k (.slice bT nT cT), .k (.int .i64 (nT : Nat)), .k (.int .i64 (n : Int)), .k (.bool true), .k (.bool true), .k (.bool true), .k (.pointer (some ⟨gb, 4, none⟩)), .k (.slice bD nD cD), .k (.int .i64 (nD : Nat)), .k (.int .i64 (n : Int)), .k (.int .i64 ((7 * n + 3 : Nat) : Int)), .k (.bool true), .k (.bool true), .k (.bool true)] (Old W1) (by kernel_rfl) (by kernel_rfl) rfl ((Old.refl _).drew) ?st ?_
 case st =>
  refine .p <| .c (stf 1 U29 HG.out) <| .p <| .p <| .c (stv (v' := .bool (((nR : Nat) : Int) == ((n : Nat) : Int))) HeR.out) <| .p <| .p <| .c (stf 2 U29 HG.out) <| .p <| .p <| .c (stv (v' := .bool (((nS : Nat) : Int) == ((n : Nat) : Int))) HeS.out) <| .p <| .p <| .p <| .c (stf 3 U29 HG.out) <| .p <| .p <| .c (stv (v' := .bool (((nT : Nat) : Int) == ((n : Nat) : Int))) HeT.out) <| .p <| .p <| .p <| .c (stf 4 U29 HG.out) <| .p <| .p <| .c (stK old_R func125 (fun wx _ => HSz.out wx)) <| .c (stv (v' := .bool (((nD : Nat) : Int) == ((7 * n + 3 : Nat) : Int))) HeD.out) <| .p <| .c stp .n
 intro t wx hR hk
 simp only [fill, Ent.val, zs0, zs1, zd1, zd0, zdn]
 go_wp2_with fail
 go_ret
 exact ⟨by rw [HV.out]; rfl, HW0.out.trans hR⟩
end
end Go.Proofs.YtlnmjbbpenhdbaaGreat
