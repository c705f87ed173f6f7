/-
  The contract of modn.Inv at this seat.
-/
import Derived.Test.YtmmicbdjafolpaePows
import Derived.RowKit3
namespace Go.Proofs.Ytmmicbdjafolpae
open Go.RowKit

set_option maxHeartbeats 1000000 in
theorem inv_any (a m : Int) (w : World) (a0 : 0 ≤ a) (a1 : a ≤ 18446744073709551615) :
    Calls Try.prog 56 #[.int .u64 a, .int .u64 m] w fun e w' => e = .returned (.tuple #[.int .u64 (invI a m), .bool (invB a m)]) ∧ ∃ n, w' = w.drewN n := by
  cases hm : okM m
  · have hn := okM_no hm
    go_enter Try.func56, Try.ntmps56
    go_wp2_with (go_at_call 65; refine (isMod_no _ _ hn).mono ?_; rintro e w' ⟨rfl, rfl⟩)
    go_ret2
    exact ⟨ret_inv (inv_bad hm).2.symm (inv_bad hm).1.symm, 0, rfl⟩
  · have ⟨m0, m1⟩ := okM_yes hm
    obtain ⟨x0, x1⟩ := mod_bd a hm
    have HM : Hid (okM m = true) := hm
    clear hm
    have HS : Hid (∀ x y : Int, subI x y m = (x - y) % m ∧ 0 ≤ subI x y m ∧ subI x y m < m) := fun x y => by rw [subI_yes HM.out]; exact ⟨rfl, mod_bd _ HM.out⟩
    have HT : Hid (∀ x y : Int, mulI x y m = x * y % m ∧ 0 ≤ mulI x y m ∧ mulI x y m < m) := fun x y => by rw [mulI_yes HM.out]; exact ⟨rfl, mod_bd _ HM.out⟩
    have HZ : Hid (m ∣ a * 0 - m ∧ m ∣ a * 1 - a % m ∧ ∀ d : Int, d ∣ m → d ∣ a % m → d ∣ m ∧ d ∣ a) := euclid_start a m
    go_enter Try.func56, Try.ntmps56
    go_wp2_with (go_at_call 65; refine (isMod_yes _ _ m0 m1).mono ?_; rintro e w' ⟨rfl, rfl⟩)
    go_quiet (fail)
    go_wp2_with fail
    go_loopw [6, 7, 8, 9] (fun rv xv fv gv wx => ∃ (r x f g : Int) (nd : Nat), rv = .int .u64 r ∧ xv = .int .u64 x ∧ fv = .int .u64 f ∧ gv = .int .u64 g ∧ 1 ≤ r ∧ r ≤ m ∧ 0 ≤ x ∧ x ≤ m ∧ 0 ≤ f ∧ f < m ∧ 0 ≤ g ∧ g < m ∧ Hid (m ∣ a * f - r) ∧ Hid (m ∣ a * g - x) ∧ Hid (∀ d : Int, d ∣ r → d ∣ x → d ∣ m ∧ d ∣ a) ∧ wx = w.drewN nd) (fun _ xv _ _ _ => (intOf xv).toNat)
    case atStart => exact ⟨_, _, 0, 1, _, rfl, rfl, rfl, rfl, by omega, by omega, x0, by omega, by omega, by omega, by omega, by omega, HZ.out.1, HZ.out.2.1, HZ.out.2.2, rfl⟩
    case round =>
      obtain ⟨r, x, f, g, nd, rfl, rfl, rfl, rfl, r0, r1, y0, y1, f0, f1, g0, g1, D1, D2, D3, rfl⟩ := hrel
      by_cases hx : 0 < x
      · have k0 := Int.ediv_nonneg (show 0 ≤ r by omega) y0
        have k1 : r / x ≤ r := Int.ediv_le_self _ (by omega)
        have k2 := Int.emod_nonneg r (show x ≠ 0 by omega)
        have k3 := Int.emod_lt_of_pos r hx
        obtain ⟨u1, u2, u3⟩ := HT.out (r / x) g
        obtain ⟨t1, t2, t3⟩ := HS.out f (mulI (r / x) g m)
        have U1 : Hid (mulI (r / x) g m = r / x * g % m) := u1
        have T1 : Hid (subI f (mulI (r / x) g m) m = (f - mulI (r / x) g m) % m) := t1
        clear u1 t1
        go_wp2_with fail
        go_quiet (fail)
        go_wp2_with (first | (go_at_call 52; refine (mul_any _ _ _ _ (by omega) (by omega) (by omega) (by omega)).mono ?_; rintro e w' ⟨rfl, n, rfl⟩) | (go_at_call 54; refine (sub_any _ _ _ _ (by omega) (by omega) (by omega) (by omega)).mono ?_; rintro e w' ⟨rfl, n, rfl⟩))
        go_roundw
        case rel => exact ⟨_, _, _, _, _, rfl, rfl, rfl, rfl, by omega, by omega, by omega, by omega, g0, g1, t2, t3, D2, by rw [T1.out, U1.out]; exact euclid_step D1.out D2.out, euclid_div D3.out, rfl⟩
        case measure => simp [intOf]; omega
      · have hz : x = 0 := by omega
        subst hz
        by_cases h1 : r = 1
        · subst h1
          have hy := euclid_yes HM.out f0 f1 D1.out
          have HY : Hid (invB a m = true ∧ invI a m = f) := hy
          clear hy
          go_wp2
          go_ret2
          exact ⟨ret_inv HY.out.2.symm HY.out.1.symm, _, rfl⟩
        · have hy := euclid_no HM.out r0 h1 D3.out
          have HY : Hid (invB a m = false ∧ invI a m = 0) := hy
          clear hy
          go_wp2
          go_ret2
          exact ⟨ret_inv HY.out.2.symm HY.out.1.symm, _, rfl⟩

theorem grown_draws (w : World) (n : Nat) : Grown w (w.drewN n) := Grown.refl w

theorem drawn_trans {w w1 w2 : World} (h1 : ∃ n, w1 = w.drewN n) (h2 : ∃ n, w2 = w1.drewN n) : ∃ n, w2 = w.drewN n := by
  obtain ⟨n, rfl⟩ := h1
  obtain ⟨k, rfl⟩ := h2
  exact ⟨n + k, World.drewN_drewN w n k⟩
theorem grown_of {w w' : World} (h : ∃ n, w' = w.drewN n) : Grown w w' := by
  obtain ⟨n, rfl⟩ := h
  exact grown_draws w n

end Go.Proofs.Ytmmicbdjafolpae
