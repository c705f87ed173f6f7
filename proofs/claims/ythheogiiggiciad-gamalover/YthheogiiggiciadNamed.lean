/-
  The contract of prime.isNamed at this seat.
-/
import Derived.Test.YthheogiiggiciadLie
import Derived.Test.YthheogiiggiciadProg
namespace Go.Proofs.Ythheogiiggiciad
open Go.RowKit

set_option maxHeartbeats 1000000 in
theorem named_any (x : Int) (a : Option Addr) (n cap : Nat) (N A : Nat → Int) (FA : Nat → Option Addr) (L C : Nat → Nat) (F : Nat → Nat → Int) (w : World) (x0 : 0 ≤ x) (x1 : x ≤ 18446744073709551615) (hn : n ≤ 80) (hin : RowsIn w a n N A FA L C F) :
    Calls Try.prog 52 #[.int .u64 x, .slice a n cap] w fun e w' => e = .returned (.bool (namedB N n x)) ∧ Below w.heap.size w w' := by
  have HI : Hid (RowsIn w a n N A FA L C F) := hin
  clear hin
  by_cases h2 : x = 2
  · subst h2
    have HN : Hid (namedB N n 2 = true) := namedB_iff.2 (Or.inl rfl)
    go_enter Try.func52, Try.ntmps52
    go_wp2
    go_ret
    exact ⟨ret_bool HN.out.symm, Below.refl _ _⟩
  · go_enter Try.func52, Try.ntmps52
    go_wp2_with fail
    go_loopw [11] (fun iv wx => ∃ i : Nat, iv = .int .i64 (i : Int) ∧ i ≤ n ∧ Below w.heap.size w wx ∧ Hid (∀ j, j < i → N j ≠ x)) (fun iv _ => n - (intOf iv).toNat)
    case atStart => exact ⟨0, rfl, Nat.zero_le _, Below.refl _ _, fun j hj => by omega⟩
    case round =>
      obtain ⟨i, rfl, hi, hbel, HJ⟩ := hrel
      by_cases hlt : i < n
      · rcases HI.out with h0 | ⟨b, off, rfl, hb, hr⟩
        · omega
        have r := (hr i hlt).below hb hbel
        clear hr
        obtain ⟨c0, c1, c2⟩ := (⟨r.c0, r.c1, r.c2⟩ : _ ∧ _ ∧ _)
        have HR : Hid (RowAt wr b (off + i * 3) (N i) (A i) (FA i) (L i) (C i) (F i)) := r
        clear r
        by_cases hx : N i = x
        · go_wp2
          go_ret
          exact ⟨ret_bool (namedB_iff.2 (Or.inr ⟨i, hlt, hx⟩)).symm, below_new hbel _⟩
        · go_wp2
          go_roundw
          case rel => exact ⟨i + 1, idx_next i, by omega, below_new hbel _, upto_succ HJ.out hx⟩
          case measure => simp [intOf]; omega
      · go_wp2
        go_ret
        exact ⟨ret_bool (namedB_no h2 (fun j hj => HJ.out j (by omega))).symm, hbel⟩

end Go.Proofs.Ythheogiiggiciad
