/-
  The contracts of modn.Inv and of the document's Inv at this seat.
-/
import Derived.Test.YtneopeckflfbaaaPows
import Derived.RowKit3
namespace Go.Proofs.Ytneopeckflfbaaa
open Go.RowKit

theorem ret_inv {a b : Int} {x y : Bool} (h : a = b) (h' : x = y) : Ending.returned (.tuple #[.int .u64 a, .bool x]) = .returned (.tuple #[.int .u64 b, .bool y]) := by rw [h, h']

set_option maxHeartbeats 1000000 in
theorem inv_any (a m : Int) (w : World) (a0 : 0 ≤ a) (a1 : a ≤ 18446744073709551615) :
    Calls Try.prog 17 #[.int .u64 a, .int .u64 m] w fun e w' => e = .returned (.tuple #[.int .u64 (invI a m), .bool (invB a m)]) ∧ ∃ n, w' = w.drewN n := by
  cases hm : okM m
  · have hn := okM_no hm
    go_enter Try.func17, Try.ntmps17
    go_wp2_with (go_at_call 19; refine (isMod_no _ _ hn).mono ?_; rintro e w' ⟨rfl, rfl⟩)
    go_ret2
    exact ⟨ret_inv (inv_bad hm).2.symm (inv_bad hm).1.symm, 0, rfl⟩
  · have ⟨m0, m1⟩ := okM_yes hm
    obtain ⟨x0, x1⟩ := mod_bd a hm
    have HM : Hid (okM m = true) := hm
    clear hm
    have HS : Hid (∀ x y : Int, subI x y m = (x - y) % m ∧ 0 ≤ subI x y m ∧ subI x y m < m) := fun x y => by rw [subI_yes HM.out]; exact ⟨rfl, mod_bd _ HM.out⟩
    have HT : Hid (∀ x y : Int, mulI x y m = x * y % m ∧ 0 ≤ mulI x y m ∧ mulI x y m < m) := fun x y => by rw [mulI_yes HM.out]; exact ⟨rfl, mod_bd _ HM.out⟩
    have HZ : Hid (m ∣ a * 0 - m ∧ m ∣ a * 1 - a % m ∧ ∀ d : Int, d ∣ m → d ∣ a % m → d ∣ m ∧ d ∣ a) := euclid_start a m
    go_enter Try.func17, Try.ntmps17
    go_wp2_with (go_at_call 19; refine (isMod_yes _ _ m0 m1).mono ?_; rintro e w' ⟨rfl, rfl⟩)
    go_quiet (fail)
    go_wp2_with fail
    go_loopw [6, 7, 8, 9] (fun rv xv fv gv wx => ∃ (r x f g : Int) (nd : Nat), rv = .int .u64 r ∧ xv = .int .u64 x ∧ fv = .int .u64 f ∧ gv = .int .u64 g ∧ 1 ≤ r ∧ r ≤ m ∧ 0 ≤ x ∧ x ≤ m ∧ 0 ≤ f ∧ f < m ∧ 0 ≤ g ∧ g < m ∧ Hid (m ∣ a * f - r) ∧ Hid (m ∣ a * g - x) ∧ Hid (∀ d : Int, d ∣ r → d ∣ x → d ∣ m ∧ d ∣ a) ∧ wx = w.drewN nd) (fun _ xv _ _ _ => (intOf xv).toNat)
    case atStart => exact ⟨_, _, 0, 1, _, rfl, rfl, rfl, rfl, by omega, by omega, x0, by omega, by omega, by omega, by omega, by omega, HZ.out.1, HZ.out.2.1, HZ.out.2.2, rfl⟩
    case round =>
      obtain ⟨r, x, f, g, nd, rfl, rfl, rfl, rfl, r0, r1, y0, y1, f0, f1, g0, g1, D1, D2, D3, rfl⟩ := hrel
      by_cases hx : 0 < x
      · have k0 := Int.ediv_nonneg (show 0 ≤ r by omega) y0
        have k1 : r / x ≤ r := Int.ediv_le_self _ (by omega)
        have k2 := Int.emod_nonneg r (show x ≠ 0 by omega)
        have k3 := Int.emod_lt_of_pos r hx
        obtain ⟨u1, u2, u3⟩ := HT.out (r / x) g
        obtain ⟨t1, t2, t3⟩ := HS.out f (mulI (r / x) g m)
        have U1 : Hid (mulI (r / x) g m = r / x * g % m) := u1
        have T1 : Hid (subI f (mulI (r / x) g m) m = (f - mulI (r / x) g m) % m) := t1
        clear u1 t1
        go_wp2_with fail
        go_quiet (fail)
        go_wp2_with (first | (go_at_call 13; refine (mul_any _ _ _ _ (by omega) (by omega) (by omega) (by omega)).mono ?_; rintro e w' ⟨rfl, n, rfl⟩) | (go_at_call 11; refine (sub_any _ _ _ _ (by omega) (by omega) (by omega) (by omega)).mono ?_; rintro e w' ⟨rfl, n, rfl⟩))
        go_roundw
        case rel => exact ⟨_, _, _, _, _, rfl, rfl, rfl, rfl, by omega, by omega, by omega, by omega, g0, g1, t2, t3, D2, by rw [T1.out, U1.out]; exact euclid_step D1.out D2.out, euclid_div D3.out, rfl⟩
        case measure => simp [intOf]; omega
      · have hz : x = 0 := by omega
        subst hz
        by_cases h1 : r = 1
        · subst h1
          have hy := euclid_yes HM.out f0 f1 D1.out
          have HY : Hid (invB a m = true ∧ invI a m = f) := hy
          clear hy
          go_wp2
          go_ret2
          exact ⟨ret_inv HY.out.2.symm HY.out.1.symm, _, rfl⟩
        · have hy := euclid_no HM.out r0 h1 D3.out
          have HY : Hid (invB a m = false ∧ invI a m = 0) := hy
          clear hy
          go_wp2
          go_ret2
          exact ⟨ret_inv HY.out.2.symm HY.out.1.symm, _, rfl⟩

set_option maxHeartbeats 1000000 in
theorem rinv_any (a m : Int) (w : World) (a0 : 0 ≤ a) (a1 : a ≤ 18446744073709551615) :
    Calls Try.prog 18 #[.int .u64 a, .int .u64 m] w fun e w' => e = .returned (.tuple #[.int .u64 (invI a m), .bool (invB a m)]) ∧ ∃ n, w' = w.drewN n := by
  cases hm : okM m
  · have hn := okM_no hm
    go_enter Try.func18, Try.ntmps18
    go_wp2_with (go_at_call 20; refine (right_no _ _ hn).mono ?_; rintro e w' ⟨rfl, rfl⟩)
    go_ret2
    exact ⟨ret_inv (inv_bad hm).2.symm (inv_bad hm).1.symm, 0, rfl⟩
  · have ⟨m0, m1⟩ := okM_yes hm
    obtain ⟨x0, x1⟩ := mod_bd a hm
    have HM : Hid (okM m = true) := hm
    clear hm
    have HS : Hid (∀ x y : Int, subI x y m = (x - y) % m ∧ 0 ≤ subI x y m ∧ subI x y m < m) := fun x y => by rw [subI_yes HM.out]; exact ⟨rfl, mod_bd _ HM.out⟩
    have HT : Hid (∀ x y : Int, mulI x y m = x * y % m ∧ 0 ≤ mulI x y m ∧ mulI x y m < m) := fun x y => by rw [mulI_yes HM.out]; exact ⟨rfl, mod_bd _ HM.out⟩
    have HZ : Hid (m ∣ a * 0 - m ∧ m ∣ a * 1 - a % m ∧ ∀ d : Int, d ∣ m → d ∣ a % m → d ∣ m ∧ d ∣ a) := euclid_start a m
    go_enter Try.func18, Try.ntmps18
    go_wp2_with (go_at_call 20; refine (right_yes _ _ m0 m1).mono ?_; rintro e w' ⟨rfl, rfl⟩)
    go_loopw [6, 7, 8, 9] (fun xv rv gv fv wx => ∃ (r x f g : Int) (nd : Nat), rv = .int .u64 r ∧ xv = .int .u64 x ∧ fv = .int .u64 f ∧ gv = .int .u64 g ∧ 1 ≤ r ∧ r ≤ m ∧ 0 ≤ x ∧ x ≤ m ∧ 0 ≤ f ∧ f < m ∧ 0 ≤ g ∧ g < m ∧ Hid (m ∣ a * f - r) ∧ Hid (m ∣ a * g - x) ∧ Hid (∀ d : Int, d ∣ r → d ∣ x → d ∣ m ∧ d ∣ a) ∧ wx = w.drewN nd) (fun xv _ _ _ _ => (intOf xv).toNat)
    case atStart => exact ⟨_, _, 0, 1, 0, rfl, rfl, rfl, rfl, by omega, by omega, x0, by omega, by omega, by omega, by omega, by omega, HZ.out.1, HZ.out.2.1, HZ.out.2.2, rfl⟩
    case round =>
      obtain ⟨r, x, f, g, nd, rfl, rfl, rfl, rfl, r0, r1, y0, y1, f0, f1, g0, g1, D1, D2, D3, rfl⟩ := hrel
      by_cases hx : 0 < x
      · have k0 := Int.ediv_nonneg (show 0 ≤ r by omega) y0
        have k1 : r / x ≤ r := Int.ediv_le_self _ (by omega)
        have k2 := Int.emod_nonneg r (show x ≠ 0 by omega)
        have k3 := Int.emod_lt_of_pos r hx
        have k4 : 0 ≤ r / x * x := Int.mul_nonneg k0 y0
        have k5 : r / x * x ≤ r := Int.ediv_mul_le _ (by omega)
        have e5 : r - r / x * x = r % x := by rw [Int.emod_def, Int.mul_comm]
        have E5 : Hid (r - r / x * x = r % x) := e5
        clear e5
        obtain ⟨u1, u2, u3⟩ := HT.out (r / x) g
        obtain ⟨t1, t2, t3⟩ := HS.out f (mulI (r / x) g m)
        have U1 : Hid (mulI (r / x) g m = r / x * g % m) := u1
        have T1 : Hid (subI f (mulI (r / x) g m) m = (f - mulI (r / x) g m) % m) := t1
        clear u1 t1
        go_wp2_with (first | (go_at_call 14; refine (rmul_any _ _ _ _ (by omega) (by omega) (by omega) (by omega)).mono ?_; rintro e w' ⟨rfl, n, rfl⟩) | (go_at_call 12; refine (rsub_any _ _ _ _ (by omega) (by omega) (by omega) (by omega)).mono ?_; rintro e w' ⟨rfl, n, rfl⟩))
        go_roundw
        case rel => exact ⟨_, _, _, _, _, rfl, by rw [E5.out], rfl, rfl, by omega, by omega, by omega, by omega, g0, g1, t2, t3, D2, by rw [T1.out, U1.out]; exact euclid_step D1.out D2.out, euclid_div D3.out, rfl⟩
        case measure => simp [intOf]; rw [E5.out]; omega
      · have hz : x = 0 := by omega
        subst hz
        by_cases h1 : r = 1
        · subst h1
          have hy := euclid_yes HM.out f0 f1 D1.out
          have HY : Hid (invB a m = true ∧ invI a m = f) := hy
          have HF : Hid (f % m = f) := Int.emod_eq_of_lt f0 f1
          clear hy
          go_wp2
          go_ret2
          exact ⟨ret_inv (by rw [HF.out]; exact HY.out.2.symm) HY.out.1.symm, _, rfl⟩
        · have hy := euclid_no HM.out r0 h1 D3.out
          have HY : Hid (invB a m = false ∧ invI a m = 0) := hy
          clear hy
          go_wp2
          go_ret2
          exact ⟨ret_inv HY.out.2.symm HY.out.1.symm, _, rfl⟩

theorem grown_draws (w : World) (n : Nat) : Grown w (w.drewN n) := Grown.refl w

theorem drawn_trans {w w1 w2 : World} (h1 : ∃ n, w1 = w.drewN n) (h2 : ∃ n, w2 = w1.drewN n) : ∃ n, w2 = w.drewN n := by
  obtain ⟨n, rfl⟩ := h1
  obtain ⟨k, rfl⟩ := h2
  exact ⟨n + k, World.drewN_drewN w n k⟩
theorem grown_of {w w' : World} (h : ∃ n, w' = w.drewN n) : Grown w w' := by
  obtain ⟨n, rfl⟩ := h
  exact grown_draws w n

theorem awake_any (w : World) : Calls Try.prog 8 #[] w fun e w' => e = .returned (.bool true) ∧ ∃ n, w' = w.drewN n := by
  have e1 : invI 3 7 = 5 := by decide +kernel
  have e2 : invB 3 7 = true := by decide +kernel
  have e3 : mulI 5 7 11 = 2 := by decide +kernel
  have e4 : powI 2 10 1000 = 24 := by decide +kernel
  have c1 := inv_any 3 7
  have c2 := mul_any 5 7 11
  have c3 := pow_any 2 10 1000
  rw [e1, e2] at c1
  rw [e3] at c2
  rw [e4] at c3
  have C1 : Hid (∀ w, Calls Try.prog 17 #[.int .u64 3, .int .u64 7] w fun e w' => e = .returned (.tuple #[.int .u64 5, .bool true]) ∧ ∃ n, w' = w.drewN n) := fun w => c1 w (by decide) (by decide)
  have C2 : Hid (∀ w, Calls Try.prog 13 #[.int .u64 5, .int .u64 7, .int .u64 11] w fun e w' => e = .returned (.int .u64 2) ∧ ∃ n, w' = w.drewN n) := fun w => c2 w (by decide) (by decide) (by decide) (by decide)
  have C3 : Hid (∀ w, Calls Try.prog 15 #[.int .u64 2, .int .u64 10, .int .u64 1000] w fun e w' => e = .returned (.int .u64 24) ∧ ∃ n, w' = w.drewN n) := fun w => c3 w (by decide) (by decide) (by decide) (by decide)
  clear e1 e2 e3 e4 c1 c2 c3
  go_enter Try.func8, Try.ntmps8
  go_wp2_with (first | (go_at_call 17; refine (C1.out _).mono ?_; rintro e w' ⟨rfl, n, rfl⟩) | (go_at_call 13; refine (C2.out _).mono ?_; rintro e w' ⟨rfl, n, rfl⟩) | (go_at_call 15; refine (C3.out _).mono ?_; rintro e w' ⟨rfl, n, rfl⟩))
  go_ret
  exact ⟨rfl, _, rfl⟩

end Go.Proofs.Ytneopeckflfbaaa
