/-
  Products, powers and quotients of elements, as plain whole numbers (layers 4 and 5).
-/
import Derived.Test.YtmmicbdjafolpaeGprod
namespace Go.Proofs.Ytmmicbdjafolpae
open Go.RowKit

theorem Righ.p11 {P Q G : Int} (h : Righ P Q G) : 11 ≤ P := by have := h.two; have := h.q0; omega
theorem Righ.ppos {P Q G : Int} (h : Righ P Q G) : 0 < P := by have := h.p11; omega
theorem Righ.in_iff {P Q G x : Int} (h : Righ P Q G) : inI P Q x = true ↔ 1 ≤ x ∧ x < P ∧ x ^ Q.toNat % P = 1 := by
  rw [inI_iff, powI_yes h.ok]
theorem Righ.one_mod {P Q G : Int} (h : Righ P Q G) : (1 : Int) % P = 1 := by
  have := h.p11
  exact Int.emod_eq_of_lt (by omega) (by omega)
theorem Righ.in_mod {P Q G z : Int} (h : Righ P Q G) (hz : z ^ Q.toNat % P = 1) : inI P Q (z % P) = true := by
  have hp := h.ppos
  have h0 := Int.emod_nonneg z (show P ≠ 0 by omega)
  have h1 := Int.emod_lt_of_pos z hp
  have hc : (z % P) ^ Q.toNat % P = 1 := by rw [cong_pow (mod_self z P) Q.toNat, hz]
  refine h.in_iff.2 ⟨?_, h1, hc⟩
  rcases Int.lt_or_le 0 (z % P) with hl | hl
  · omega
  · have e : z % P = 0 := by omega
    rw [e, show Q.toNat = (Q.toNat - 1) + 1 by have := h.q0; omega, Int.pow_succ] at hc
    simp at hc
theorem Righ.one_in {P Q G : Int} (h : Righ P Q G) : inI P Q 1 = true := by
  have := h.in_mod (z := 1) (by rw [Int.one_pow]; exact h.one_mod)
  rwa [h.one_mod] at this
theorem Righ.lt {P Q G x : Int} (h : Righ P Q G) (hx : inI P Q x = true) : 0 ≤ x ∧ x < P := by
  obtain ⟨a, b, _⟩ := h.in_iff.1 hx
  omega
theorem Righ.self {P Q G x : Int} (h : Righ P Q G) (hx : inI P Q x = true) : x % P = x := Int.emod_eq_of_lt (h.lt hx).1 (h.lt hx).2
theorem Righ.mul_in {P Q G x y : Int} (h : Righ P Q G) (hx : inI P Q x = true) (hy : inI P Q y = true) : inI P Q (mulI x y P) = true := by
  rw [mulI_yes h.ok]
  refine h.in_mod ?_
  rw [Int.mul_pow, cong_mul (b := 1) (d := 1) (by rw [(h.in_iff.1 hx).2.2, h.one_mod]) (by rw [(h.in_iff.1 hy).2.2, h.one_mod])]
  exact h.one_mod
theorem mul_cong {P x y a b : Int} (h : okM P = true) (hx : x % P = a % P) (hy : y % P = b % P) : mulI x y P % P = a * b % P := by
  rw [mulI_yes h, mod_self]
  exact cong_mul hx hy
/-- A power of an element hangs on the exponent modulo Q alone. -/
theorem Righ.exp_cong {P Q G x e : Int} (h : Righ P Q G) (hx : inI P Q x = true) (he : 0 ≤ e) : expI P Q x e % P = x ^ e.toNat % P := by
  have hq := h.q0
  unfold expI
  rw [if_neg (by omega), powI_yes h.ok, mod_self]
  have hd := Int.emod_add_mul_ediv e Q
  have r0 := Int.emod_nonneg e (show Q ≠ 0 by omega)
  have d0 := Int.ediv_nonneg he (show 0 ≤ Q by omega)
  have hn : e.toNat = (e % Q).toNat + Q.toNat * (e / Q).toNat := by
    apply Int.ofNat.inj
    show (e.toNat : Int) = (((e % Q).toNat + Q.toNat * (e / Q).toNat : Nat) : Int)
    rw [Int.natCast_add, Int.natCast_mul, Int.toNat_of_nonneg he, Int.toNat_of_nonneg r0, Int.toNat_of_nonneg d0, Int.toNat_of_nonneg (by omega)]
    exact hd.symm
  rw [hn, Int.pow_add, Int.pow_mul]
  have hk : (x ^ Q.toNat) ^ (e / Q).toNat % P = 1 % P := by
    rw [cong_pow (b := 1) (by rw [(h.in_iff.1 hx).2.2, h.one_mod]) _, Int.one_pow]
  have := cong_mul (a := x ^ (e % Q).toNat) (b := x ^ (e % Q).toNat) rfl hk
  rw [Int.mul_one] at this
  exact this.symm
theorem Righ.exp_in {P Q G x e : Int} (h : Righ P Q G) (hx : inI P Q x = true) : inI P Q (expI P Q x e) = true := by
  have hq := h.q0
  unfold expI
  rw [if_neg (by omega), powI_yes h.ok]
  refine h.in_mod ?_
  rw [← Int.pow_mul, Nat.mul_comm, Int.pow_mul, cong_pow (b := 1) (by rw [(h.in_iff.1 hx).2.2, h.one_mod]) _, Int.one_pow]
  exact h.one_mod
/-- A product as it is, not taken modulo anything. -/
def pr (F : Nat → Int) : Nat → Int
  | 0 => 1
  | k + 1 => pr F k * F k
theorem prod_cong {P : Int} (h : okM P = true) (F : Nat → Int) : ∀ k, prodI P F k % P = pr F k % P
  | 0 => rfl
  | k + 1 => by
    show mulI (prodI P F k) (F k) P % P = pr F k * F k % P
    exact mul_cong h (prod_cong h F k) rfl
theorem Righ.prod_in {P Q G : Int} (h : Righ P Q G) {F : Nat → Int} : ∀ k, (∀ i, i < k → inI P Q (F i) = true) → inI P Q (prodI P F k) = true
  | 0, _ => h.one_in
  | k + 1, hF => h.mul_in (h.prod_in k fun i hi => hF i (by omega)) (hF k (by omega))
theorem prod_two {P a b : Int} (h : okM P = true) {F : Nat → Int} (h0 : F 0 = a) (h1 : F 1 = b) : prodI P F 2 = mulI a b P := by
  show mulI (mulI 1 (F 0) P) (F 1) P = _
  rw [h0, h1, mulI_yes h, mulI_yes h, mulI_yes h, Int.one_mul]
  exact cong_mul (mod_self a P) rfl
/-- What makes 1 of an element is an element. -/
theorem Righ.inv {P Q G y : Int} (h : Righ P Q G) (hy : inI P Q y = true) : invB y P = true ∧ inI P Q (invI y P) = true ∧ y * invI y P % P = 1 := by
  have hp := h.ppos
  have hq := h.q0
  have e1 : y * (y ^ (Q.toNat - 1) % P) % P = 1 := by
    rw [cong_mul (a := y) (b := y) rfl (mod_self (y ^ (Q.toNat - 1)) P), Int.mul_comm, ← Int.pow_succ, show (Q.toNat - 1).succ = Q.toNat by omega]
    exact (h.in_iff.1 hy).2.2
  obtain ⟨b1, b2⟩ := inv_has h.ok (Int.emod_nonneg _ (by omega)) (Int.emod_lt_of_pos _ hp) e1
  refine ⟨b1, ?_, by rw [b2]; exact e1⟩
  rw [b2]
  refine h.in_mod ?_
  rw [← Int.pow_mul, Nat.mul_comm, Int.pow_mul, cong_pow (b := 1) (by rw [(h.in_iff.1 hy).2.2, h.one_mod]) _, Int.one_pow]
  exact h.one_mod
/-- A quotient. -/
def overI (P x y : Int) : Int := mulI x (invI y P) P
theorem Righ.over_cong {P Q G y : Int} (h : Righ P Q G) (hy : inI P Q y = true) (x : Int) : overI P x y * y % P = x % P := by
  unfold overI
  have h1 := mul_cong (x := x) (y := invI y P) (a := x) (b := invI y P) h.ok rfl rfl
  have h2 := cong_mul (c := y) (d := y) h1 rfl
  rw [h2, Int.mul_assoc, Int.mul_comm (invI y P) y]
  have := cong_mul (a := x) (b := x) (c := y * invI y P) (d := 1) (m := P) rfl (by rw [(h.inv hy).2.2, h.one_mod])
  rw [this, Int.mul_one]
theorem Righ.over_in {P Q G x y : Int} (h : Righ P Q G) (hx : inI P Q x = true) (hy : inI P Q y = true) : inI P Q (overI P x y) = true := h.mul_in hx (h.inv hy).2.1
theorem overI_lt {P x y : Int} (h : okM P = true) : 0 ≤ overI P x y ∧ overI P x y < P := by
  unfold overI
  rw [mulI_yes h]
  exact mod_bd _ h
theorem Righ.cancel {P Q G y a b : Int} (h : Righ P Q G) (hy : inI P Q y = true) (hab : a * y % P = b * y % P) : a % P = b % P := by
  have key : ∀ z : Int, z * y * invI y P % P = z % P := fun z => by
    rw [Int.mul_assoc]
    have := cong_mul (a := z) (b := z) (c := y * invI y P) (d := 1) (m := P) rfl (by rw [(h.inv hy).2.2, h.one_mod])
    rw [this, Int.mul_one]
  rw [← key a, ← key b]
  exact cong_mul hab rfl
theorem Righ.over_is {P Q G v x y : Int} (h : Righ P Q G) (hy : inI P Q y = true) (h0 : 0 ≤ v) (h1 : v < P) (hv : v * y % P = x % P) : overI P x y = v := by
  have e := h.cancel hy ((h.over_cong hy x).trans hv.symm)
  obtain ⟨o0, o1⟩ := overI_lt (x := x) (y := y) h.ok
  rwa [Int.emod_eq_of_lt o0 o1, Int.emod_eq_of_lt h0 h1] at e
/-- Two numbers below P that leave the same. -/
theorem same_of {P a b : Int} (a0 : 0 ≤ a) (a1 : a < P) (b0 : 0 ≤ b) (b1 : b < P) (h : a % P = b % P) : a = b := by
  rwa [Int.emod_eq_of_lt a0 a1, Int.emod_eq_of_lt b0 b1] at h
theorem mulI_lt {P x y : Int} (h : okM P = true) : 0 ≤ mulI x y P ∧ mulI x y P < P := by
  rw [mulI_yes h]
  exact mod_bd _ h

/-- Sealed again by one draw and then by another. -/
theorem Righ.again_add {P Q G u y r s : Int} (h : Righ P Q G) (hy : inI P Q y = true) (hr : 0 ≤ r) (hs : 0 ≤ s) :
    mulI (mulI u (expI P Q y r) P) (expI P Q y s) P = mulI u (expI P Q y (r + s)) P := by
  refine same_of (mulI_lt h.ok).1 (mulI_lt h.ok).2 (mulI_lt h.ok).1 (mulI_lt h.ok).2 ?_
  rw [mul_cong h.ok (mul_cong h.ok rfl (h.exp_cong hy hr)) (h.exp_cong hy hs), mul_cong h.ok rfl (h.exp_cong hy (by omega)), Int.toNat_add hr hs, Int.pow_add, Int.mul_assoc]
theorem Righ.again_none {P Q G u y e : Int} (h : Righ P Q G) (hu : inI P Q u = true) (he : e % Q = 0) : mulI u (expI P Q y e) P = u := by
  have hq := h.q0
  unfold expI
  rw [if_neg (by omega), he, powI_yes h.ok]
  show mulI u (y ^ 0 % P) P = u
  rw [Int.pow_zero, h.one_mod, mulI_yes h.ok, Int.mul_one]
  exact h.self hu
/-- What a number of draws make of a sum. -/
def sm (X : Nat → Int) : Nat → Nat
  | 0 => 0
  | k + 1 => sm X k + (X k).toNat
theorem Righ.keys_cong {P Q G u : Int} (h : Righ P Q G) (hu : inI P Q u = true) (X : Nat → Int) : ∀ k, (∀ i, i < k → 0 ≤ X i) → prodI P (fun i => expI P Q u (X i)) k % P = u ^ sm X k % P
  | 0, _ => by
    show (1 : Int) % P = u ^ 0 % P
    rw [Int.pow_zero]
  | k + 1, hX => by
    show mulI (prodI P (fun i => expI P Q u (X i)) k) (expI P Q u (X k)) P % P = u ^ (sm X k + (X k).toNat) % P
    rw [mul_cong h.ok (h.keys_cong hu X k fun i hi => hX i (by omega)) (h.exp_cong hu (hX k (by omega))), Int.pow_add]
/-- What is sealed opens. -/
theorem Righ.opens {P Q G m u v y p : Int} {R S : Nat} (h : Righ P Q G) (hm : inI P Q m = true) (hu : u % P = G ^ R % P) (hv : v % P = m * y ^ R % P) (hy : y % P = G ^ S % P) (hp : p % P = u ^ S % P) (hpi : inI P Q p = true) : overI P v p = m := by
  refine h.over_is hpi (h.lt hm).1 (h.lt hm).2 ?_
  have e1 : m * p % P = m * (G ^ R) ^ S % P := cong_mul rfl (hp.trans (cong_pow hu S))
  have e2 : v % P = m * (G ^ S) ^ R % P := hv.trans (cong_mul rfl (cong_pow hy R))
  rw [e1, e2, ← Int.pow_mul, ← Int.pow_mul, Nat.mul_comm]

end Go.Proofs.Ytmmicbdjafolpae
