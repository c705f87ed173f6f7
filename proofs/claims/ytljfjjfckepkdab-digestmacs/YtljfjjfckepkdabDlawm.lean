/-
  The statement's walk (layer 3): DigestMacs.
-/
import Derived.Test.YtljfjjfckepkdabShae
import Derived.Test.YtljfjjfckepkdabDmac2
namespace Go.Proofs.Ytljfjjfckepkdab
open Go.RowKit

theorem macL_len (k s : List Int) : (macL k s).length = 32 := sumL_len _
theorem mac_in : sumL (masked (keyK []) 54 ++ []) = [231, 43, 189, 77, 66, 154, 201, 20, 168, 166, 197, 189, 73, 99, 47, 246, 176, 13, 79, 239, 66, 175, 180, 67, 240, 184, 4, 125, 240, 108, 133, 210] := by
  rw [sum_is _ (bts_app (masked_bd _ _) (fun x hx => by cases hx))]
  decide +kernel
theorem mac_nil : macL [] [] = [182, 19, 103, 154, 8, 20, 217, 236, 119, 47, 149, 215, 120, 195, 95, 197, 255, 22, 151, 196, 147, 113, 86, 83, 198, 199, 18, 20, 66, 146, 197, 173] := by
  unfold macL
  rw [mac_in, sum_is _ (bts_app (masked_bd _ _) (by unfold Bts; decide))]
  decide +kernel

set_option maxHeartbeats 2000000 in
theorem law_macs (k s : ByteArray) (w : World) :
    Calls Try.prog 6 #[.string k, .string s] w fun e w' => e = .returned (.bool true) ∧ Old w w' := by
  have C0 : Hid (∀ wx, Calls Try.prog 14 #[.string ⟨#[]⟩, .string ⟨#[]⟩] wx fun e w' => e = .returned (.string (strOfNums (macL [] []))) ∧ Old wx w') := fun wx => dmac_any [] [] wx (fun x hx => by cases hx) (fun x hx => by cases hx) (by decide) (by decide)
  have hsz : (strOfNums (macL [] [])).size = 32 := by rw [strOfNums_size, macL_len]
  have hcut : (strOfNums (macL [] [])).extract 0 4 = ⟨#[182, 19, 103, 154]⟩ := by rw [mac_nil]; rfl
  generalize macL [] [] = z at *
  by_cases h1 : k.size ≤ 5000
  · by_cases h2 : s.size ≤ 5000
    · have C1 : Hid (∀ wx, Calls Try.prog 14 #[.string k, .string s] wx fun e w' => e = .returned (.string (strOfNums (macL (numsOf k) (numsOf s)))) ∧ Old wx w') := fun wx => by
        have := dmac_any (numsOf k) (numsOf s) wx (numsOf_bd k) (numsOf_bd s) (by rw [numsOf_len]; omega) (by rw [numsOf_len]; omega)
        rwa [numsOf_str, numsOf_str] at this
      have C2 : Hid (∀ wx, Calls Try.prog 15 #[.string k, .string s] wx fun e w' => e = .returned (.string (strOfNums (macL (numsOf k) (numsOf s)))) ∧ Old wx w') := fun wx => by
        have := mac_any (numsOf k) (numsOf s) wx (numsOf_bd k) (numsOf_bd s) (by rw [numsOf_len]; omega) (by rw [numsOf_len]; omega)
        rwa [numsOf_str, numsOf_str] at this
      generalize macL (numsOf k) (numsOf s) = x at *
      go_enter Try.func6, Try.ntmps6
      go_wp2_with (first
        | (go_at_call_of 14 (Value.string k); refine (C1.out _).mono ?_; rintro e w2 ⟨rfl, ho2⟩)
        | (go_at_call 14; refine (C0.out _).mono ?_; rintro e w1 ⟨rfl, ho1⟩)
        | (go_at_call 15; refine (C2.out _).mono ?_; rintro e w3 ⟨rfl, ho3⟩))
      go_ret
      exact ⟨rfl, ho1.trans (ho2.trans ho3)⟩
    · go_enter Try.func6, Try.ntmps6
      go_wp2_with (go_at_call 14; refine (C0.out _).mono ?_; rintro e w1 ⟨rfl, ho1⟩)
      go_ret
      exact ⟨rfl, ho1⟩
  · go_enter Try.func6, Try.ntmps6
    go_wp2_with (go_at_call 14; refine (C0.out _).mono ?_; rintro e w1 ⟨rfl, ho1⟩)
    go_ret
    exact ⟨rfl, ho1⟩

end Go.Proofs.Ytljfjjfckepkdab
