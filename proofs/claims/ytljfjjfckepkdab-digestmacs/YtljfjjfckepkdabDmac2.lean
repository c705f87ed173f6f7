/-
  The contract of the program's Mac (layer 3).
-/
import Derived.Test.YtljfjjfckepkdabDmac
namespace Go.Proofs.Ytljfjjfckepkdab
open Go.RowKit

set_option maxHeartbeats 2000000 in
theorem dmac_any (k s : List Int) (w : World) (hk : Bts k) (hs : Bts s) (lk : k.length ≤ 100000) (ls : s.length ≤ 100000) :
    Calls Try.prog 14 #[.string (strOfNums k), .string (strOfNums s)] w fun e w' => e = .returned (.string (strOfNums (macL k s))) ∧ Old w w' := by
  have zk := strOfNums_size k
  have HB : Hid (Bts k ∧ Bts s) := ⟨hk, hs⟩
  clear hk hs
  go_enter Try.func14, Try.ntmps14
  go_upto_if 7 with fail
  go_cut [0] (fun kv wx => kv = .string (strOfNums (keyK k)) ∧ Old w wx)
  case first =>
    by_cases hlt : 64 < k.length
    · have HE : Hid (keyK k = sumL k) := by unfold Hid keyK; rw [if_pos hlt]
      go_wp2_with (go_at_call 22; refine (dsum_any k _ HB.out.1 (by omega)).mono ?_; rintro e w' ⟨rfl, ho⟩)
      go_meet
      case rel => exact ⟨by rw [HE.out], ho⟩
    · have HE : Hid (keyK k = k) := by unfold Hid keyK; rw [if_neg hlt]
      go_wp2_with fail
      go_meet
      case rel => exact ⟨by rw [HE.out], Old.refl _⟩
  obtain ⟨rfl, hold⟩ := hcut
  have HK : Hid (Bts (keyK k)) := keyK_bd HB.out.1
  have lq := keyK_len k
  obtain ⟨p, hp⟩ : ∃ p : Nat, p = 64 - (keyK k).length := ⟨_, rfl⟩
  have HM : Hid (macL k s = sumL (masked (keyK k ++ List.replicate p 0) 92 ++ sumL (masked (keyK k ++ List.replicate p 0) 54 ++ s))) := by unfold Hid macL; rw [hp, masked_pad, masked_pad]
  generalize keyK k = q at *
  clear zk
  have HO : Hid (Old w wc) := hold
  clear hold
  have hadd : ∀ xs ys : List Int, strOfNums xs ++ strOfNums ys = strOfNums (xs ++ ys) := str_add
  have hsz : ∀ xs : List Int, (strOfNums xs).size = xs.length := strOfNums_size
  have hsub : (64 : Int) - (q.length : Int) = (p : Int) := by omega
  have p64 : p ≤ 64 := by omega
  have HP : Hid (Bts (q ++ List.replicate p (0 : Int)) ∧ (q ++ List.replicate p (0 : Int)).length = 64) := ⟨bts_app HK.out (fun x hx => by have := List.eq_of_mem_replicate hx; omega), by simp; omega⟩
  have hlq : q.length + p = 64 := by omega
  clear hp
  have C1 : Hid (∀ wx, Calls Try.prog 24 #[.string (strOfNums (q ++ List.replicate p 0)), .int .u8 92] wx fun e w' => e = .returned (.string (strOfNums (masked (q ++ List.replicate p 0) 92))) ∧ Old wx w') := fun wx => dmask_any _ 92 wx HP.out.1 HP.out.2
  have C2 : Hid (∀ wx, Calls Try.prog 24 #[.string (strOfNums (q ++ List.replicate p 0)), .int .u8 54] wx fun e w' => e = .returned (.string (strOfNums (masked (q ++ List.replicate p 0) 54))) ∧ Old wx w') := fun wx => dmask_any _ 54 wx HP.out.1 HP.out.2
  have B1 : Hid (Bts (masked (q ++ List.replicate p 0) 92) ∧ Bts (masked (q ++ List.replicate p 0) 54)) := ⟨masked_bd _ _, masked_bd _ _⟩
  have m1 := masked_len (q ++ List.replicate p (0 : Int)) 92
  have m2 := masked_len (q ++ List.replicate p (0 : Int)) 54
  generalize masked (q ++ List.replicate p 0) 92 = x at *
  generalize masked (q ++ List.replicate p 0) 54 = y at *
  have C3 : Hid (∀ wx, Calls Try.prog 22 #[.string (strOfNums (y ++ s))] wx fun e w' => e = .returned (.string (strOfNums (sumL (y ++ s)))) ∧ Old wx w') := fun wx => dsum_any _ wx (bts_app B1.out.2 HB.out.2) (by rw [List.length_append]; omega)
  have m3 := sumL_len (y ++ s)
  have B2 : Hid (Bts (sumL (y ++ s))) := sumL_bd _
  generalize sumL (y ++ s) = z at *
  have C4 : Hid (∀ wx, Calls Try.prog 22 #[.string (strOfNums (x ++ z))] wx fun e w' => e = .returned (.string (strOfNums (sumL (x ++ z)))) ∧ Old wx w') := fun wx => dsum_any _ wx (bts_app B1.out.1 B2.out) (by rw [List.length_append]; omega)
  generalize sumL (x ++ z) = r at *
  go_wp2_with (first
    | (go_at_call 23; refine (drepeat_any p _ (by omega)).mono ?_; rintro e w1 ⟨rfl, ho1⟩)
    | (go_at_call_of 24 (Value.int IntKind.u8 92); refine (C1.out _).mono ?_; rintro e w2 ⟨rfl, ho2⟩)
    | (go_at_call_of 24 (Value.int IntKind.u8 54); refine (C2.out _).mono ?_; rintro e w3 ⟨rfl, ho3⟩)
    | (go_at_call_of 22 (Value.string (strOfNums (y ++ s))); refine (C3.out _).mono ?_; rintro e w4 ⟨rfl, ho4⟩)
    | (go_at_call 22; refine (C4.out _).mono ?_; rintro e w5 ⟨rfl, ho5⟩))
  go_ret
  exact ⟨by rw [HM.out]; rfl, HO.out.trans (ho1.trans (ho2.trans (ho3.trans (ho4.trans ho5))))⟩

end Go.Proofs.Ytljfjjfckepkdab
