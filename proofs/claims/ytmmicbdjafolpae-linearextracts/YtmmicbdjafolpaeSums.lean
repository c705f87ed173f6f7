/-
  The contracts of modn.Add, Sub, Mul at this seat.
-/
import Derived.Test.YtmmicbdjafolpaeDiv
import Derived.Test.YtmmicbdjafolpaeRef1
import Derived.WalkKit
import Derived.Deep.QuietTactic
import Derived.BigQuiet
namespace Go.Proofs.Ytmmicbdjafolpae
open Go.RowKit

theorem isMod_yes (m : Int) (w : World) (h1 : 2 ≤ m) (h2 : m ≤ 4611686018427387904) :
    Calls Try.prog 65 #[.int .u64 m] w fun e w' => e = .returned (.bool true) ∧ w = w' := by
  go_enter Try.func65, Try.ntmps65
  go_wp2
  go_ret
  exact ⟨rfl, rfl⟩
theorem isMod_no (m : Int) (w : World) (h : m < 2 ∨ 4611686018427387904 < m) :
    Calls Try.prog 65 #[.int .u64 m] w fun e w' => e = .returned (.bool false) ∧ w = w' := by
  rcases h with h | h
  · go_enter Try.func65, Try.ntmps65
    go_wp2
    go_ret
    exact ⟨rfl, rfl⟩
  · have h' : 2 ≤ m := by omega
    have hd : decide (m ≤ 4611686018427387904) = false := by simpa using h
    go_enter Try.func65, Try.ntmps65
    go_wp2
    go_ret
    exact ⟨rfl, rfl⟩
theorem add_any (a b m : Int) (w : World) (a0 : 0 ≤ a) (a1 : a ≤ 18446744073709551615) (b0 : 0 ≤ b) (b1 : b ≤ 18446744073709551615) :
    Calls Try.prog 51 #[.int .u64 a, .int .u64 b, .int .u64 m] w fun e w' => e = .returned (.int .u64 (addI a b m)) ∧ ∃ n, w' = w.drewN n := by
  cases hm : okM m
  · have hn := okM_no hm
    go_enter Try.func51, Try.ntmps51
    go_wp2_with (go_at_call 65; refine (isMod_no _ _ hn).mono ?_; rintro e w' ⟨rfl, rfl⟩)
    go_ret
    exact ⟨ret_u64 (addI_no hm).symm, 0, rfl⟩
  · have ⟨m0, m1⟩ := okM_yes hm
    have hx := mod_bd a hm
    have hy := mod_bd b hm
    obtain ⟨x0, x1⟩ := hx
    obtain ⟨y0, y1⟩ := hy
    have HM : Hid (okM m = true) := hm
    clear hm
    go_enter Try.func51, Try.ntmps51
    go_wp2_with (go_at_call 65; refine (isMod_yes _ _ m0 m1).mono ?_; rintro e w' ⟨rfl, rfl⟩)
    go_quiet (fail)
    go_wp2
    go_ret
    exact ⟨ret_u64 (by rw [addI_yes HM.out, add_eq]), _, rfl⟩

theorem sub_any (a b m : Int) (w : World) (a0 : 0 ≤ a) (a1 : a ≤ 18446744073709551615) (b0 : 0 ≤ b) (b1 : b ≤ 18446744073709551615) :
    Calls Try.prog 54 #[.int .u64 a, .int .u64 b, .int .u64 m] w fun e w' => e = .returned (.int .u64 (subI a b m)) ∧ ∃ n, w' = w.drewN n := by
  cases hm : okM m
  · have hn := okM_no hm
    go_enter Try.func54, Try.ntmps54
    go_wp2_with (go_at_call 65; refine (isMod_no _ _ hn).mono ?_; rintro e w' ⟨rfl, rfl⟩)
    go_ret
    exact ⟨ret_u64 (subI_no hm).symm, 0, rfl⟩
  · have ⟨m0, m1⟩ := okM_yes hm
    obtain ⟨x0, x1⟩ := mod_bd a hm
    obtain ⟨y0, y1⟩ := mod_bd b hm
    have HM : Hid (okM m = true) := hm
    clear hm
    go_enter Try.func54, Try.ntmps54
    go_wp2_with (go_at_call 65; refine (isMod_yes _ _ m0 m1).mono ?_; rintro e w' ⟨rfl, rfl⟩)
    go_quiet (fail)
    go_wp2
    go_ret
    exact ⟨ret_u64 (by rw [subI_yes HM.out, sub_eq]), _, rfl⟩

/-- bits.Div64. -/
theorem div_any (hi lo y : Int) (w : World) (h0 : 0 ≤ hi) (h1 : hi < y) (h2 : 0 ≤ lo) (h3 : lo ≤ 18446744073709551615) (h4 : y ≤ 18446744073709551615) :
    Calls Try.prog 67 #[.int .u64 hi, .int .u64 lo, .int .u64 y] w fun e w' => e = .returned (.tuple #[.int .u64 ((hi * 18446744073709551616 + lo) / y), .int .u64 ((hi * 18446744073709551616 + lo) % y)]) ∧ ∃ n, w' = w.drewN n := by
  by_cases h : hi = 0
  · subst h
    go_enter Try.func67, Try.ntmps67
    go_wp2
    go_quiet (fail)
    go_wp2
    simp only [Int.zero_mul, Int.zero_add]
    go_ret2
    exact ⟨rfl, _, rfl⟩
  · refine (div_high hi lo y w (by omega) h1 h2 h3 h4).mono ?_
    rintro e w' ⟨rfl, rfl⟩
    exact ⟨rfl, 0, rfl⟩

theorem mul_two (x y m : Int) (x0 : 0 ≤ x) (x1 : x < m) (y0 : 0 ≤ y) (y1 : y < m) (hm : m ≤ 4611686018427387904) :
    ∃ H L : Int, x * y / 18446744073709551616 = H ∧ x * y % 18446744073709551616 = L ∧ H * 18446744073709551616 + L = x * y ∧ 0 ≤ H ∧ H < m ∧ 0 ≤ L ∧ L ≤ 18446744073709551615 := by
  have hp := prod_bd x y m 4611686018427387904 x0 (by omega) y0 (by omega)
  exact ⟨_, _, rfl, rfl, by omega, by omega, by omega, by omega, by omega⟩

theorem mul64_int (x y : Int) (x0 : 0 ≤ x) (x1 : x < 18446744073709551616) (y0 : 0 ≤ y) (y1 : y < 18446744073709551616) (w : World) :
    Calls Try.prog 66 #[.int .u64 x, .int .u64 y] w fun e w' => e = .returned (.tuple #[.int .u64 (x * y / 18446744073709551616), .int .u64 (x * y % 18446744073709551616)]) ∧ w' = w := by
  obtain ⟨a, rfl⟩ := Int.eq_ofNat_of_zero_le x0
  obtain ⟨b, rfl⟩ := Int.eq_ofNat_of_zero_le y0
  refine (Try.bits_Mul64 a b (by omega) (by omega) w).mono ?_
  rintro e w' ⟨rfl, rfl⟩
  refine ⟨?_, rfl⟩
  rw [Int.natCast_ediv, Int.natCast_emod, Int.natCast_mul]
  rfl

theorem mul_any (a b m : Int) (w : World) (a0 : 0 ≤ a) (a1 : a ≤ 18446744073709551615) (b0 : 0 ≤ b) (b1 : b ≤ 18446744073709551615) :
    Calls Try.prog 52 #[.int .u64 a, .int .u64 b, .int .u64 m] w fun e w' => e = .returned (.int .u64 (mulI a b m)) ∧ ∃ n, w' = w.drewN n := by
  cases hm : okM m
  · have hn := okM_no hm
    go_enter Try.func52, Try.ntmps52
    go_wp2_with (go_at_call 65; refine (isMod_no _ _ hn).mono ?_; rintro e w' ⟨rfl, rfl⟩)
    go_ret
    exact ⟨ret_u64 (mulI_no hm).symm, 0, rfl⟩
  · have ⟨m0, m1⟩ := okM_yes hm
    obtain ⟨x0, x1⟩ := mod_bd a hm
    obtain ⟨y0, y1⟩ := mod_bd b hm
    have ⟨H, L, eH, eL, eHL, h0, h1, h2, h3⟩ := mul_two (a % m) (b % m) m x0 x1 y0 y1 m1
    have c := mul64_int (a % m) (b % m) x0 (by omega) y0 (by omega)
    rw [eH, eL] at c
    have C : Hid (∀ w, Calls Try.prog 66 #[.int .u64 (a % m), .int .u64 (b % m)] w fun e w' => e = .returned (.tuple #[.int .u64 H, .int .u64 L]) ∧ w' = w) := c
    have HE : Hid (H * 18446744073709551616 + L = a % m * (b % m)) := eHL
    have HM : Hid (okM m = true) := hm
    clear hm c eH eL eHL
    go_enter Try.func52, Try.ntmps52
    go_wp2_with (go_at_call 65; refine (isMod_yes _ _ m0 m1).mono ?_; rintro e w' ⟨rfl, rfl⟩)
    go_quiet ((go_at_call 66; exact Calls.quiet_of_same (C.out _)))
    go_wp2_with (go_at_call 67; refine (div_any _ _ _ _ h0 h1 h2 h3 (by omega)).mono ?_; rintro e w' ⟨rfl, n, rfl⟩)
    go_ret
    exact ⟨ret_u64 (by rw [HE.out, mulI_yes HM.out, ← Int.mul_emod]), _, rfl⟩

end Go.Proofs.Ytmmicbdjafolpae
