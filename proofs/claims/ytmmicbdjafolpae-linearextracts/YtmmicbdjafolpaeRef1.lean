/-
  The contracts of the document's functions of layer 1 at this seat.
-/
import Derived.Test.YtmmicbdjafolpaeProg
import Derived.Test.YtmmicbdjafolpaeSpec
import Derived.WalkKit
import Derived.Deep.QuietTactic
import Derived.BigQuiet
import Derived.WalkSmall
namespace Go.Proofs.Ytmmicbdjafolpae
open Go.RowKit

theorem ret_u64 {a b : Int} (h : a = b) : Ending.returned (.int .u64 a) = .returned (.int .u64 b) := by rw [h]

theorem right_yes (m : Int) (w : World) (h1 : 2 ≤ m) (h2 : m ≤ 4611686018427387904) :
    Calls Try.prog 63 #[.int .u64 m] w fun e w' => e = .returned (.bool true) ∧ w = w' := by
  go_enter Try.func63, Try.ntmps63
  go_wp2
  go_ret
  exact ⟨rfl, rfl⟩
theorem right_no (m : Int) (w : World) (h : m < 2 ∨ 4611686018427387904 < m) :
    Calls Try.prog 63 #[.int .u64 m] w fun e w' => e = .returned (.bool false) ∧ w = w' := by
  rcases h with h | h
  · go_enter Try.func63, Try.ntmps63
    go_wp2
    go_ret
    exact ⟨rfl, rfl⟩
  · have h' : 2 ≤ m := by omega
    have hd : decide (m ≤ 4611686018427387904) = false := by simpa using h
    go_enter Try.func63, Try.ntmps63
    go_wp2
    go_ret
    exact ⟨rfl, rfl⟩

theorem radd_any (a b m : Int) (w : World) (a0 : 0 ≤ a) (a1 : a ≤ 18446744073709551615) (b0 : 0 ≤ b) (b1 : b ≤ 18446744073709551615) :
    Calls Try.prog 53 #[.int .u64 a, .int .u64 b, .int .u64 m] w fun e w' => e = .returned (.int .u64 (addI a b m)) ∧ ∃ n, w' = w.drewN n := by
  cases hm : okM m
  · have hn := okM_no hm
    go_enter Try.func53, Try.ntmps53
    go_wp2_with (go_at_call 63; refine (right_no _ _ hn).mono ?_; rintro e w' ⟨rfl, rfl⟩)
    go_ret
    exact ⟨ret_u64 (addI_no hm).symm, 0, rfl⟩
  · have ⟨m0, m1⟩ := okM_yes hm
    obtain ⟨x0, x1⟩ := mod_bd a hm
    obtain ⟨y0, y1⟩ := mod_bd b hm
    have e := add_eq2 a b m (by omega)
    rw [← addI_yes hm] at e
    have HE : Hid ((if m ≤ a % m + b % m then a % m + b % m - m else a % m + b % m) = addI a b m) := e
    clear hm e
    by_cases hc : m ≤ a % m + b % m
    · go_enter Try.func53, Try.ntmps53
      go_wp2_with (go_at_call 63; refine (right_yes _ _ m0 m1).mono ?_; rintro e w' ⟨rfl, rfl⟩)
      go_quiet (fail)
      go_wp2
      go_ret
      exact ⟨ret_u64 (by rw [← HE.out, if_pos hc]), _, rfl⟩
    · go_enter Try.func53, Try.ntmps53
      go_wp2_with (go_at_call 63; refine (right_yes _ _ m0 m1).mono ?_; rintro e w' ⟨rfl, rfl⟩)
      go_quiet (fail)
      go_wp2
      go_ret
      exact ⟨ret_u64 (by rw [← HE.out, if_neg (by omega)]), _, rfl⟩

theorem sub_add (a b m : Int) : (a + (m - b % m)) % m = (a - b) % m := by
  rw [show a + (m - b % m) = (a - b % m) + m * 1 by omega, Int.add_mul_emod_self_left]
  exact cong_sub rfl (mod_self _ _)

theorem rsub_any (a b m : Int) (w : World) (a0 : 0 ≤ a) (a1 : a ≤ 18446744073709551615) (b0 : 0 ≤ b) (b1 : b ≤ 18446744073709551615) :
    Calls Try.prog 55 #[.int .u64 a, .int .u64 b, .int .u64 m] w fun e w' => e = .returned (.int .u64 (subI a b m)) ∧ ∃ n, w' = w.drewN n := by
  cases hm : okM m
  · have hn := okM_no hm
    go_enter Try.func55, Try.ntmps55
    go_wp2_with (go_at_call 63; refine (right_no _ _ hn).mono ?_; rintro e w' ⟨rfl, rfl⟩)
    go_ret
    exact ⟨ret_u64 (subI_no hm).symm, 0, rfl⟩
  · have ⟨m0, m1⟩ := okM_yes hm
    obtain ⟨y0, y1⟩ := mod_bd b hm
    have HM : Hid (okM m = true) := hm
    clear hm
    go_enter Try.func55, Try.ntmps55
    go_wp2_with (first | (go_at_call 63; refine (right_yes _ _ m0 m1).mono ?_; rintro e w' ⟨rfl, rfl⟩) | (go_at_call 53; refine (radd_any _ _ _ _ (by omega) (by omega) (by omega) (by omega)).mono ?_; rintro e w' ⟨rfl, n, rfl⟩))
    go_ret
    exact ⟨ret_u64 (by rw [subI_yes HM.out, addI_yes HM.out, sub_add]), _, rfl⟩

theorem mr_odd (s t n m s' t' : Int) (e d : Int) (hn : n % 2 = 1) (hs : s' = s + t - m * e) (ht : t' = t + t - m * d) : (s' + t' * (n / 2)) % m = (s + t * n) % m := by
  subst hs ht
  have := mul_odd s t (n / 2) m e d
  rwa [show 2 * (n / 2) + 1 = n by omega] at this
theorem mr_even (s t n m t' : Int) (d : Int) (hn : n % 2 = 0) (ht : t' = t + t - m * d) : (s + t' * (n / 2)) % m = (s + t * n) % m := by
  subst ht
  have := mul_even s t (n / 2) m d
  rwa [show 2 * (n / 2) = n by omega] at this

set_option maxHeartbeats 1000000 in
theorem rmul_any (a b m : Int) (w : World) (a0 : 0 ≤ a) (a1 : a ≤ 18446744073709551615) (b0 : 0 ≤ b) (b1 : b ≤ 18446744073709551615) :
    Calls Try.prog 45 #[.int .u64 a, .int .u64 b, .int .u64 m] w fun e w' => e = .returned (.int .u64 (mulI a b m)) ∧ ∃ n, w' = w.drewN n := by
  cases hm : okM m
  · have hn := okM_no hm
    go_enter Try.func45, Try.ntmps45
    go_wp2_with (go_at_call 63; refine (right_no _ _ hn).mono ?_; rintro e w' ⟨rfl, rfl⟩)
    go_ret
    exact ⟨ret_u64 (mulI_no hm).symm, 0, rfl⟩
  · have ⟨m0, m1⟩ := okM_yes hm
    obtain ⟨x0, x1⟩ := mod_bd a hm
    obtain ⟨y0, y1⟩ := mod_bd b hm
    have HM : Hid (okM m = true) := hm
    clear hm
    go_enter Try.func45, Try.ntmps45
    go_wp2_with (go_at_call 63; refine (right_yes _ _ m0 m1).mono ?_; rintro e w' ⟨rfl, rfl⟩)
    go_loop [7, 8, 9] (fun sv tv nv => ∃ s t n : Int, sv = .int .u64 s ∧ tv = .int .u64 t ∧ nv = .int .u64 n ∧ 0 ≤ s ∧ s < m ∧ 0 ≤ t ∧ t < m ∧ 0 ≤ n ∧ n < m ∧ (s + t * n) % m = a * b % m) (fun _ _ nv => (intOf nv).toNat)
    case atStart => exact ⟨0, _, _, rfl, rfl, rfl, by omega, by omega, x0, x1, y0, y1, by rw [Int.zero_add, ← Int.mul_emod]⟩
    case round =>
      obtain ⟨s, t, n, rfl, rfl, rfl, s0, s1, t0, t1, n0, n1, hr⟩ := hrel
      have HR : Hid ((s + t * n) % m = a * b % m) := hr
      clear hr
      by_cases hn : 0 < n
      · by_cases hp : n % 2 = 1
        · by_cases h1 : m ≤ s + t
          · by_cases h2 : m ≤ t + t
            · go_wp2
              go_round
              case rel => exact ⟨_, _, _, rfl, rfl, rfl, by omega, by omega, by omega, by omega, by omega, by omega, by rw [mr_odd s t n m _ _ 1 1 hp (by omega) (by omega)]; exact HR.out⟩
              case measure => simp [intOf]; omega
            · go_wp2
              go_round
              case rel => exact ⟨_, _, _, rfl, rfl, rfl, by omega, by omega, by omega, by omega, by omega, by omega, by rw [mr_odd s t n m _ _ 1 0 hp (by omega) (by omega)]; exact HR.out⟩
              case measure => simp [intOf]; omega
          · by_cases h2 : m ≤ t + t
            · go_wp2
              go_round
              case rel => exact ⟨_, _, _, rfl, rfl, rfl, by omega, by omega, by omega, by omega, by omega, by omega, by rw [mr_odd s t n m _ _ 0 1 hp (by omega) (by omega)]; exact HR.out⟩
              case measure => simp [intOf]; omega
            · go_wp2
              go_round
              case rel => exact ⟨_, _, _, rfl, rfl, rfl, by omega, by omega, by omega, by omega, by omega, by omega, by rw [mr_odd s t n m _ _ 0 0 hp (by omega) (by omega)]; exact HR.out⟩
              case measure => simp [intOf]; omega
        · have hp : n % 2 = 0 := by omega
          by_cases h2 : m ≤ t + t
          · go_wp2
            go_round
            case rel => exact ⟨_, _, _, rfl, rfl, rfl, by omega, by omega, by omega, by omega, by omega, by omega, by rw [mr_even s t n m _ 1 hp (by omega)]; exact HR.out⟩
            case measure => simp [intOf]; omega
          · go_wp2
            go_round
            case rel => exact ⟨_, _, _, rfl, rfl, rfl, by omega, by omega, by omega, by omega, by omega, by omega, by rw [mr_even s t n m _ 0 hp (by omega)]; exact HR.out⟩
            case measure => simp [intOf]; omega
      · have hz : n = 0 := by omega
        have hk := HR.out
        rw [hz, Int.mul_zero, Int.add_zero, Int.emod_eq_of_lt s0 s1] at hk
        have HK : Hid (s = a * b % m) := hk
        clear hk
        subst hz
        go_wp2
        go_ret
        exact ⟨ret_u64 (by rw [mulI_yes HM.out]; exact HK.out), 0, rfl⟩

set_option maxHeartbeats 1000000 in
theorem rpow_any (a e m : Int) (w : World) (a0 : 0 ≤ a) (a1 : a ≤ 18446744073709551615) (e0 : 0 ≤ e) (e1 : e ≤ 18446744073709551615) :
    Calls Try.prog 60 #[.int .u64 a, .int .u64 e, .int .u64 m] w fun x w' => x = .returned (.int .u64 (powI a e m)) ∧ ∃ n, w' = w.drewN n := by
  cases hm : okM m
  · have hn := okM_no hm
    go_enter Try.func60, Try.ntmps60
    go_wp2_with (go_at_call 63; refine (right_no _ _ hn).mono ?_; rintro e w' ⟨rfl, rfl⟩)
    go_ret
    exact ⟨ret_u64 (powI_no hm).symm, 0, rfl⟩
  · have ⟨m0, m1⟩ := okM_yes hm
    obtain ⟨x0, x1⟩ := mod_bd a hm
    obtain ⟨E, rfl⟩ := Int.eq_ofNat_of_zero_le e0
    have HM : Hid (okM m = true) := hm
    clear hm
    have HS : Hid (∀ x y : Int, mulI x y m = x * y % m ∧ 0 ≤ mulI x y m ∧ mulI x y m < m) := fun x y => by rw [mulI_yes HM.out]; exact ⟨rfl, mod_bd _ HM.out⟩
    go_enter Try.func60, Try.ntmps60
    go_wp2_with (go_at_call 63; refine (right_yes _ _ m0 m1).mono ?_; rintro e w' ⟨rfl, rfl⟩)
    go_loopw [1, 7, 8] (fun ev pv sv wx => ∃ (k : Nat) (p s : Int) (nd : Nat), ev = .int .u64 (k : Int) ∧ pv = .int .u64 p ∧ sv = .int .u64 s ∧ k ≤ E ∧ 0 ≤ p ∧ p < m ∧ 0 ≤ s ∧ s < m ∧ p * s ^ k % m = a ^ E % m ∧ wx = w.drewN nd) (fun ev _ _ _ => (intOf ev).toNat)
    case atStart => exact ⟨E, 1, _, 0, rfl, rfl, rfl, Nat.le_refl _, by omega, by omega, x0, x1, by rw [Int.one_mul]; exact cong_pow (mod_self _ _) E, rfl⟩
    case round =>
      obtain ⟨k, p, s, nd, rfl, rfl, rfl, hk, p0, p1, s0, s1, hr, rfl⟩ := hrel
      have HR : Hid (p * s ^ k % m = a ^ E % m) := hr
      clear hr
      obtain ⟨q1, q2, q3⟩ := HS.out p s
      obtain ⟨r1, r2, r3⟩ := HS.out s s
      have Q1 : Hid (mulI p s m = p * s % m) := q1
      have R1 : Hid (mulI s s m = s * s % m) := r1
      clear q1 r1
      by_cases hn : 0 < k
      · by_cases hp : k % 2 = 1
        · go_wp2_with (go_at_call 45; refine (rmul_any _ _ _ _ (by omega) (by omega) (by omega) (by omega)).mono ?_; rintro e w' ⟨rfl, n, rfl⟩)
          go_roundw
          case rel => exact ⟨k / 2, _, _, _, by go_num, rfl, rfl, by omega, q2, q3, r2, r3, by rw [Q1.out, R1.out, pow_odd, show 2 * (k / 2) + 1 = k by omega]; exact HR.out, rfl⟩
          case measure => simp [intOf]; omega
        · have hp' : k % 2 = 0 := by omega
          go_wp2_with (go_at_call 45; refine (rmul_any _ _ _ _ (by omega) (by omega) (by omega) (by omega)).mono ?_; rintro e w' ⟨rfl, n, rfl⟩)
          go_roundw
          case rel => exact ⟨k / 2, _, _, _, by go_num, rfl, rfl, by omega, p0, p1, r2, r3, by rw [R1.out, pow_even, show 2 * (k / 2) = k by omega]; exact HR.out, rfl⟩
          case measure => simp [intOf]; omega
      · have hz : k = 0 := by omega
        have hq := HR.out
        rw [hz, Int.pow_zero, Int.mul_one, Int.emod_eq_of_lt p0 p1] at hq
        have HK : Hid (p = a ^ E % m) := hq
        clear hq q2 q3 r2 r3
        subst hz
        go_wp2
        go_ret
        exact ⟨ret_u64 (by rw [powI_yes HM.out, Int.toNat_natCast]; rw [← HK.out, Int.emod_eq_of_lt p0 p1]), _, rfl⟩

theorem ret_inv {a b : Int} {x y : Bool} (h : a = b) (h' : x = y) : Ending.returned (.tuple #[.int .u64 a, .bool x]) = .returned (.tuple #[.int .u64 b, .bool y]) := by rw [h, h']

set_option maxHeartbeats 1000000 in
theorem rinv_any (a m : Int) (w : World) (a0 : 0 ≤ a) (a1 : a ≤ 18446744073709551615) :
    Calls Try.prog 57 #[.int .u64 a, .int .u64 m] w fun e w' => e = .returned (.tuple #[.int .u64 (invI a m), .bool (invB a m)]) ∧ ∃ n, w' = w.drewN n := by
  cases hm : okM m
  · have hn := okM_no hm
    go_enter Try.func57, Try.ntmps57
    go_wp2_with (go_at_call 63; refine (right_no _ _ hn).mono ?_; rintro e w' ⟨rfl, rfl⟩)
    go_ret2
    exact ⟨ret_inv (inv_bad hm).2.symm (inv_bad hm).1.symm, 0, rfl⟩
  · have ⟨m0, m1⟩ := okM_yes hm
    obtain ⟨x0, x1⟩ := mod_bd a hm
    have HM : Hid (okM m = true) := hm
    clear hm
    have HS : Hid (∀ x y : Int, subI x y m = (x - y) % m ∧ 0 ≤ subI x y m ∧ subI x y m < m) := fun x y => by rw [subI_yes HM.out]; exact ⟨rfl, mod_bd _ HM.out⟩
    have HT : Hid (∀ x y : Int, mulI x y m = x * y % m ∧ 0 ≤ mulI x y m ∧ mulI x y m < m) := fun x y => by rw [mulI_yes HM.out]; exact ⟨rfl, mod_bd _ HM.out⟩
    have HZ : Hid (m ∣ a * 0 - m ∧ m ∣ a * 1 - a % m ∧ ∀ d : Int, d ∣ m → d ∣ a % m → d ∣ m ∧ d ∣ a) := euclid_start a m
    go_enter Try.func57, Try.ntmps57
    go_wp2_with (go_at_call 63; refine (right_yes _ _ m0 m1).mono ?_; rintro e w' ⟨rfl, rfl⟩)
    go_loopw [6, 7, 8, 9] (fun xv rv gv fv wx => ∃ (r x f g : Int) (nd : Nat), rv = .int .u64 r ∧ xv = .int .u64 x ∧ fv = .int .u64 f ∧ gv = .int .u64 g ∧ 1 ≤ r ∧ r ≤ m ∧ 0 ≤ x ∧ x ≤ m ∧ 0 ≤ f ∧ f < m ∧ 0 ≤ g ∧ g < m ∧ Hid (m ∣ a * f - r) ∧ Hid (m ∣ a * g - x) ∧ Hid (∀ d : Int, d ∣ r → d ∣ x → d ∣ m ∧ d ∣ a) ∧ wx = w.drewN nd) (fun xv _ _ _ _ => (intOf xv).toNat)
    case atStart => exact ⟨_, _, 0, 1, 0, rfl, rfl, rfl, rfl, by omega, by omega, x0, by omega, by omega, by omega, by omega, by omega, HZ.out.1, HZ.out.2.1, HZ.out.2.2, rfl⟩
    case round =>
      obtain ⟨r, x, f, g, nd, rfl, rfl, rfl, rfl, r0, r1, y0, y1, f0, f1, g0, g1, D1, D2, D3, rfl⟩ := hrel
      by_cases hx : 0 < x
      · have k0 := Int.ediv_nonneg (show 0 ≤ r by omega) y0
        have k1 : r / x ≤ r := Int.ediv_le_self _ (by omega)
        have k2 := Int.emod_nonneg r (show x ≠ 0 by omega)
        have k3 := Int.emod_lt_of_pos r hx
        have k4 : 0 ≤ r / x * x := Int.mul_nonneg k0 y0
        have k5 : r / x * x ≤ r := Int.ediv_mul_le _ (by omega)
        have e5 : r - r / x * x = r % x := by rw [Int.emod_def, Int.mul_comm]
        have E5 : Hid (r - r / x * x = r % x) := e5
        clear e5
        obtain ⟨u1, u2, u3⟩ := HT.out (r / x) g
        obtain ⟨t1, t2, t3⟩ := HS.out f (mulI (r / x) g m)
        have U1 : Hid (mulI (r / x) g m = r / x * g % m) := u1
        have T1 : Hid (subI f (mulI (r / x) g m) m = (f - mulI (r / x) g m) % m) := t1
        clear u1 t1
        go_wp2_with (first | (go_at_call 45; refine (rmul_any _ _ _ _ (by omega) (by omega) (by omega) (by omega)).mono ?_; rintro e w' ⟨rfl, n, rfl⟩) | (go_at_call 55; refine (rsub_any _ _ _ _ (by omega) (by omega) (by omega) (by omega)).mono ?_; rintro e w' ⟨rfl, n, rfl⟩))
        go_roundw
        case rel => exact ⟨_, _, _, _, _, rfl, by rw [E5.out], rfl, rfl, by omega, by omega, by omega, by omega, g0, g1, t2, t3, D2, by rw [T1.out, U1.out]; exact euclid_step D1.out D2.out, euclid_div D3.out, rfl⟩
        case measure => simp [intOf]; rw [E5.out]; omega
      · have hz : x = 0 := by omega
        subst hz
        by_cases h1 : r = 1
        · subst h1
          have hy := euclid_yes HM.out f0 f1 D1.out
          have HY : Hid (invB a m = true ∧ invI a m = f) := hy
          have HF : Hid (f % m = f) := Int.emod_eq_of_lt f0 f1
          clear hy
          go_wp2
          go_ret2
          exact ⟨ret_inv (by rw [HF.out]; exact HY.out.2.symm) HY.out.1.symm, _, rfl⟩
        · have hy := euclid_no HM.out r0 h1 D3.out
          have HY : Hid (invB a m = false ∧ invI a m = 0) := hy
          clear hy
          go_wp2
          go_ret2
          exact ⟨ret_inv HY.out.2.symm HY.out.1.symm, _, rfl⟩

end Go.Proofs.Ytmmicbdjafolpae
