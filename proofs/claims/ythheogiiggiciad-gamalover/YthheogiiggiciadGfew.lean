/-
  The statements' few (layer 4).
-/
import Derived.Test.YthheogiiggiciadGnum
namespace Go.Proofs.Ythheogiiggiciad
open Go.RowKit

/-- Up to 80 rows of up to 40 factors. -/
def fewB (L : Nat → Nat) (n : Nat) : Bool := decide (n ≤ 80) && (List.range n).all fun i => decide (L i ≤ 40)
theorem fewB_iff {L : Nat → Nat} {n : Nat} : fewB L n = true ↔ n ≤ 80 ∧ ∀ i, i < n → L i ≤ 40 := by
  unfold fewB
  simp [List.all_eq_true]

set_option maxHeartbeats 1000000 in
theorem few_any (P Q G H : Int) (a : Option Addr) (n cap : Nat) (N A : Nat → Int) (FA : Nat → Option Addr) (L C : Nat → Nat) (F : Nat → Nat → Int) (w : World) (hin : RowsIn w a n N A FA L C F) :
    Calls Try.prog 10 #[gv P Q G H a n cap] w fun e w' => e = .returned (.bool (fewB L n)) ∧ Below w.heap.size w w' := by
  have HI : Hid (RowsIn w a n N A FA L C F) := hin
  clear hin
  by_cases h80 : 80 < n
  · have HN : Hid (fewB L n = false) := no_of fun hc => by have := (fewB_iff.1 hc).1; omega
    go_enter Try.func10, Try.ntmps10
    go_wp2_with fail
    go_ret
    exact ⟨ret_bool HN.out.symm, below_new (Below.refl _ _) _⟩
  go_enter Try.func10, Try.ntmps10
  go_wp2_with fail
  go_loopw [12] (fun iv wx => ∃ i : Nat, iv = .int .i64 (i : Int) ∧ i ≤ n ∧ Below w.heap.size w wx ∧ Hid (∀ j, j < i → L j ≤ 40)) (fun iv _ => n - (intOf iv).toNat)
  case atStart => exact ⟨0, rfl, Nat.zero_le _, below_new (Below.refl _ _) _, fun j hj => by omega⟩
  case round =>
    obtain ⟨i, rfl, hi, hbel, HJ⟩ := hrel
    by_cases hlt : i < n
    · rcases HI.out.below hbel with h0 | ⟨b, off, rfl, hb, hr⟩
      · omega
      have r := hr i hlt
      clear hr
      obtain ⟨c0, c1, c2⟩ := (⟨r.c0, r.c1, r.c2⟩ : _ ∧ _ ∧ _)
      clear r
      by_cases h40 : 40 < L i
      · have HN : Hid (fewB L n = false) := no_of fun hc => by have := (fewB_iff.1 hc).2 i hlt; omega
        go_wp2_with fail
        go_ret
        exact ⟨ret_bool HN.out.symm, below_new hbel _⟩
      · have HM : Hid (L i ≤ 40) := Nat.le_of_not_lt h40
        go_wp2_with fail
        go_roundw
        case rel => exact ⟨i + 1, idx_next i, by omega, below_new hbel _, upto_succ HJ.out HM.out⟩
        case measure => simp [intOf]; omega
    · have he : i = n := by omega
      subst he
      have HN : Hid (fewB L i = true) := fewB_iff.2 ⟨by omega, HJ.out⟩
      go_wp2_with fail
      go_ret
      exact ⟨ret_bool HN.out.symm, hbel⟩

end Go.Proofs.Ythheogiiggiciad
