/-
  The contract of modn.Pow at this seat.
-/
import Derived.Test.YtmmicbdjafolpaeSums
import Derived.WalkSmall
namespace Go.Proofs.Ytmmicbdjafolpae
open Go.RowKit

set_option maxHeartbeats 1000000 in
theorem pow_any (a e m : Int) (w : World) (a0 : 0 ≤ a) (a1 : a ≤ 18446744073709551615) (e0 : 0 ≤ e) (e1 : e ≤ 18446744073709551615) :
    Calls Try.prog 62 #[.int .u64 a, .int .u64 e, .int .u64 m] w fun x w' => x = .returned (.int .u64 (powI a e m)) ∧ ∃ n, w' = w.drewN n := by
  cases hm : okM m
  · have hn := okM_no hm
    go_enter Try.func62, Try.ntmps62
    go_wp2_with (go_at_call 65; refine (isMod_no _ _ hn).mono ?_; rintro e w' ⟨rfl, rfl⟩)
    go_ret
    exact ⟨ret_u64 (powI_no hm).symm, 0, rfl⟩
  · have ⟨m0, m1⟩ := okM_yes hm
    obtain ⟨x0, x1⟩ := mod_bd a hm
    obtain ⟨E, rfl⟩ := Int.eq_ofNat_of_zero_le e0
    have HM : Hid (okM m = true) := hm
    clear hm
    have HS : Hid (∀ x y : Int, mulI x y m = x * y % m ∧ 0 ≤ mulI x y m ∧ mulI x y m < m) := fun x y => by rw [mulI_yes HM.out]; exact ⟨rfl, mod_bd _ HM.out⟩
    go_enter Try.func62, Try.ntmps62
    go_wp2_with (go_at_call 65; refine (isMod_yes _ _ m0 m1).mono ?_; rintro e w' ⟨rfl, rfl⟩)
    go_loopw [1, 7, 8] (fun ev pv sv wx => ∃ (k : Nat) (p s : Int) (nd : Nat), ev = .int .u64 (k : Int) ∧ pv = .int .u64 p ∧ sv = .int .u64 s ∧ k ≤ E ∧ 0 ≤ p ∧ p < m ∧ 0 ≤ s ∧ s < m ∧ p * s ^ k % m = a ^ E % m ∧ wx = w.drewN nd) (fun ev _ _ _ => (intOf ev).toNat)
    case atStart => exact ⟨E, 1, _, 0, rfl, rfl, rfl, Nat.le_refl _, by omega, by omega, x0, x1, by rw [Int.one_mul]; exact cong_pow (mod_self _ _) E, rfl⟩
    case round =>
      obtain ⟨k, p, s, nd, rfl, rfl, rfl, hk, p0, p1, s0, s1, hr, rfl⟩ := hrel
      have HR : Hid (p * s ^ k % m = a ^ E % m) := hr
      clear hr
      obtain ⟨q1, q2, q3⟩ := HS.out p s
      obtain ⟨r1, r2, r3⟩ := HS.out s s
      have Q1 : Hid (mulI p s m = p * s % m) := q1
      have R1 : Hid (mulI s s m = s * s % m) := r1
      clear q1 r1
      by_cases hn : 0 < k
      · by_cases hp : k % 2 = 1
        · have hb : (bits .and .u64 (k : Int) 1 == 1) = true := by rw [and_one_u64 _ (by omega) (by omega)]; simp; omega
          go_wp2_with (go_at_call 52; refine (mul_any _ _ _ _ (by omega) (by omega) (by omega) (by omega)).mono ?_; rintro e w' ⟨rfl, n, rfl⟩)
          go_roundw
          case rel => exact ⟨k / 2, _, _, _, by go_num, rfl, rfl, by omega, q2, q3, r2, r3, by rw [Q1.out, R1.out, pow_odd, show 2 * (k / 2) + 1 = k by omega]; exact HR.out, rfl⟩
          case measure => simp [intOf]; omega
        · have hp' : k % 2 = 0 := by omega
          have hb : (bits .and .u64 (k : Int) 1 == 1) = false := by rw [and_one_u64 _ (by omega) (by omega)]; simp; omega
          go_wp2_with (go_at_call 52; refine (mul_any _ _ _ _ (by omega) (by omega) (by omega) (by omega)).mono ?_; rintro e w' ⟨rfl, n, rfl⟩)
          go_roundw
          case rel => exact ⟨k / 2, _, _, _, by go_num, rfl, rfl, by omega, p0, p1, r2, r3, by rw [R1.out, pow_even, show 2 * (k / 2) = k by omega]; exact HR.out, rfl⟩
          case measure => simp [intOf]; omega
      · have hz : k = 0 := by omega
        have hq := HR.out
        rw [hz, Int.pow_zero, Int.mul_one, Int.emod_eq_of_lt p0 p1] at hq
        have HK : Hid (p = a ^ E % m) := hq
        clear hq q2 q3 r2 r3
        subst hz
        go_wp2
        go_ret
        exact ⟨ret_u64 (by rw [powI_yes HM.out, Int.toNat_natCast]; exact HK.out), _, rfl⟩

end Go.Proofs.Ytmmicbdjafolpae
