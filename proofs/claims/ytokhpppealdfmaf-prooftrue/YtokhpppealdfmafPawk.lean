/-
  The numbers of the statements' awake (layer 7).
-/
import Derived.Test.YtokhpppealdfmafPap
import Derived.Test.YtokhpppealdfmafPpp
import Derived.Test.YtokhpppealdfmafPks
import Derived.Test.YtokhpppealdfmafK18
import Derived.Test.YtokhpppealdfmafK21
namespace Go.Proofs.Ytokhpppealdfmaf
open Go.RowKit

theorem awk7_f : imI 2027 1013 (fun _ => 4) (fun _ => 700) 1 = 1471 := by decide +kernel
theorem awk7_ch64 : chI [97] 2027 1013 4 9 1 (fun _ => 64) 1 (fun _ => 1) (fun _ _ => 4) 1 (fun _ => 1471) = 451 := by
  have e : numL [97] (partS 2027 1013 4 9 1 (fun _ => 64) 1 (fun _ => 1) (fun _ _ => 4) 1 (fun _ => 1471)) (1 + 3) = [0, 0, 0, 0, 0, 0, 0, 1, 97, 0, 0, 0, 0, 0, 0, 0, 32, 0, 0, 0, 0, 0, 0, 7, 235, 0, 0, 0, 0, 0, 0, 3, 245, 0, 0, 0, 0, 0, 0, 0, 4, 0, 0, 0, 0, 0, 0, 0, 9, 0, 0, 0, 0, 0, 0, 0, 8, 0, 0, 0, 0, 0, 0, 0, 64, 0, 0, 0, 0, 0, 0, 0, 8, 0, 0, 0, 0, 0, 0, 0, 4, 0, 0, 0, 0, 0, 0, 0, 8, 0, 0, 0, 0, 0, 0, 5, 191] := by decide +kernel
  unfold chI numberI
  rw [e, sum_is _ (by unfold Bts; decide)]
  decide +kernel
theorem awk7_ch9 : chI [97] 2027 1013 4 9 1 (fun _ => 9) 1 (fun _ => 1) (fun _ _ => 4) 1 (fun _ => 1471) = 763 := by
  have e : numL [97] (partS 2027 1013 4 9 1 (fun _ => 9) 1 (fun _ => 1) (fun _ _ => 4) 1 (fun _ => 1471)) (1 + 3) = [0, 0, 0, 0, 0, 0, 0, 1, 97, 0, 0, 0, 0, 0, 0, 0, 32, 0, 0, 0, 0, 0, 0, 7, 235, 0, 0, 0, 0, 0, 0, 3, 245, 0, 0, 0, 0, 0, 0, 0, 4, 0, 0, 0, 0, 0, 0, 0, 9, 0, 0, 0, 0, 0, 0, 0, 8, 0, 0, 0, 0, 0, 0, 0, 9, 0, 0, 0, 0, 0, 0, 0, 8, 0, 0, 0, 0, 0, 0, 0, 4, 0, 0, 0, 0, 0, 0, 0, 8, 0, 0, 0, 0, 0, 0, 5, 191] := by decide +kernel
  unfold chI numberI
  rw [e, sum_is _ (by unfold Bts; decide)]
  decide +kernel
theorem awk7_z : ansI 1013 451 3 700 = 27 := by decide +kernel
theorem awk7_yes : accB 2027 1013 1 (fun _ => 64) 1 (fun _ => 1) (fun _ _ => 4) 1 (fun _ => 1471) 451 1 (fun _ => 27) = true := by decide +kernel
theorem awk7_no : accB 2027 1013 1 (fun _ => 9) 1 (fun _ => 1) (fun _ _ => 4) 1 (fun _ => 1471) 763 1 (fun _ => 27) = false := by decide +kernel
theorem awk7_size : sizeN 2027 1013 1 (fun _ => 64) 1 (fun _ => 1) (fun _ _ => 4) = 1 := by decide +kernel
theorem awk7_str : strOfNums [97] = ⟨#[97]⟩ := by decide +kernel

theorem awk7_keep (key : Int) (a : Option Addr) (hk : U64 key) (w : World) : Calls Try.prog 30 #[gv 2027 1013 4 9 a 5 5, .int .u64 key] w (MadeIn w 1 (fun _ => key) 1 (fun _ => 1) (fun _ _ => 4)) :=
  (pkeeps_any 2027 1013 4 9 a 5 5 key w).mono fun e w' h => h.made (fun _ _ => hk) (fun _ _ _ _ => ⟨by omega, by omega⟩)
theorem awk7_prove (a bt : Option Addr) (ct : Nat) (bb : Option Addr) (cb : Nat) (BA : Nat → Option Addr) (C : Nat → Nat) (b3 b4 : Option Addr) (w : World) (hC : ClaimIn w bt 1 ct (fun _ => 64) bb 1 cb BA (fun _ => 1) C (fun _ _ => 4)) (h3 : FacsIn w b3 1 (fun _ => 3)) (h4 : FacsIn w b4 1 (fun _ => 700)) :
    Calls Try.prog 22 #[gv 2027 1013 4 9 a 5 5, .string ⟨#[97]⟩, cv bt 1 ct bb 1 cb, .slice b3 1 1, .slice b4 1 1] w (GivesP w true 1 (fun _ => 1471) 1 (fun _ => 27)) := by
  have h := pprove_any [97] 2027 1013 4 9 a 5 5 bt 1 ct (fun _ => 64) bb 1 cb BA (fun _ => 1) C (fun _ _ => 4) b3 1 1 (fun _ => 3) b4 1 1 (fun _ => 700) (fun _ => 1471) (by rw [awk7_size, awk7_f]) w four_sm small_righ (by unfold Bts; decide) (by decide) (by omega) (by omega) (fun _ _ => show (1 : Nat) ≤ 80 by omega) (by omega) (by omega) (by omega) (by omega) hC h3 h4
  rw [awk7_str, awk7_size, awk7_ch64, awk7_z] at h
  exact h
theorem awk7_accept (key ch : Int) (r : Bool) (hch : chI [97] 2027 1013 4 9 1 (fun _ => key) 1 (fun _ => 1) (fun _ _ => 4) 1 (fun _ => 1471) = ch) (hr : accB 2027 1013 1 (fun _ => key) 1 (fun _ => 1) (fun _ _ => 4) 1 (fun _ => 1471) ch 1 (fun _ => 27) = r) (a bt : Option Addr) (ct : Nat) (bb : Option Addr) (cb : Nat) (BA : Nat → Option Addr) (C : Nat → Nat) (bk : Option Addr) (ck : Nat) (bz : Option Addr) (cz : Nat) (w : World) (hC : ClaimIn w bt 1 ct (fun _ => key) bb 1 cb BA (fun _ => 1) C (fun _ _ => 4)) (h3 : FacsIn w bk 1 (fun _ => 1471)) (h4 : FacsIn w bz 1 (fun _ => 27)) :
    Calls Try.prog 26 #[gv 2027 1013 4 9 a 5 5, .string ⟨#[97]⟩, cv bt 1 ct bb 1 cb, cv bk 1 ck bz 1 cz] w fun e w' => e = .returned (.bool r) ∧ Old w w' := by
  have h := paccept7_any [97] 2027 1013 4 9 a 5 5 bt 1 ct (fun _ => key) bb 1 cb BA (fun _ => 1) C (fun _ _ => 4) bk 1 ck (fun _ => 1471) bz 1 cz (fun _ => 27) w four_sm small_righ (by unfold Bts; decide) (by decide) (by omega) (by omega) (fun _ _ => show (1 : Nat) ≤ 80 by omega) (by omega) hC h3 h4
  rw [awk7_str, hch, hr] at h
  exact h

end Go.Proofs.Ytokhpppealdfmaf
