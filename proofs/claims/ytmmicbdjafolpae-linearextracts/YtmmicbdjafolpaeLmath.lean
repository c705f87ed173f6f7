/-
  Claims, talks and what is extracted, as plain functions, and their laws (layer 6).
-/
import Derived.Test.YtmmicbdjafolpaeVmath
namespace Go.Proofs.Ytmmicbdjafolpae

/-- The image of exponents in a row of n bases. -/
def imI (P Q : Int) (B W : Nat → Int) (n : Nat) : Int := prodI P (fun k => expI P Q (B k) (W k)) n
/-- The product of powers as it is. -/
def pw (B W : Nat → Int) : Nat → Int
  | 0 => 1
  | k + 1 => pw B W k * B k ^ (W k).toNat
theorem Righ.im_cong {P Q G : Int} (h : Righ P Q G) {B W : Nat → Int} : ∀ n, (∀ k, k < n → inI P Q (B k) = true) → (∀ k, k < n → 0 ≤ W k) → imI P Q B W n % P = pw B W n % P
  | 0, _, _ => rfl
  | n + 1, hB, hW => by
    show mulI (imI P Q B W n) (expI P Q (B n) (W n)) P % P = pw B W n * B n ^ (W n).toNat % P
    exact mul_cong h.ok (h.im_cong n (fun k hk => hB k (by omega)) (fun k hk => hW k (by omega))) (h.exp_cong (hB n (by omega)) (hW n (by omega)))
theorem Righ.im_in {P Q G : Int} (h : Righ P Q G) {B W : Nat → Int} (n : Nat) (hB : ∀ k, k < n → inI P Q (B k) = true) : inI P Q (imI P Q B W n) = true :=
  h.prod_in n fun k hk => h.exp_in (hB k hk)
/-- An element is what it leaves. -/
theorem Righ.same {P Q G a b : Int} (h : Righ P Q G) (ha : inI P Q a = true) (hb : inI P Q b = true) (he : a % P = b % P) : a = b := by
  rwa [h.self ha, h.self hb] at he
theorem Righ.okq {P Q G : Int} (h : Righ P Q G) : okM Q = true := by
  have := h.q0; have := h.q1
  exact okM_of (by omega) (by omega)
theorem exp_mod {P Q x a b : Int} (h : a % Q = b % Q) : expI P Q x a = expI P Q x b := by unfold expI; rw [h]
theorem im_mod {P Q : Int} {B V W : Nat → Int} : ∀ n, (∀ k, k < n → V k % Q = W k % Q) → imI P Q B V n = imI P Q B W n
  | 0, _ => rfl
  | n + 1, h => by
    show mulI (imI P Q B V n) (expI P Q (B n) (V n)) P = mulI (imI P Q B W n) (expI P Q (B n) (W n)) P
    rw [im_mod n (fun k hk => h k (by omega)), exp_mod (h n (by omega))]

/-- An answer, a draw, what is extracted, at one place. -/
def ansI (Q e w d : Int) : Int := addI d (mulI e w Q) Q
def drwI (Q e w z : Int) : Int := subI z (mulI e w Q) Q
def exI (Q b z y : Int) : Int := mulI b (subI z y Q) Q
theorem ans_mod {Q e w d : Int} (h : okM Q = true) : ansI Q e w d % Q = (d + e * w) % Q := by
  unfold ansI
  rw [addI_yes h, mod_self, mulI_yes h]
  exact cong_add rfl (mod_self _ _)
theorem drw_ans {Q e w d : Int} (h : okM Q = true) : drwI Q e w (ansI Q e w d) = d % Q := by
  unfold drwI
  rw [subI_yes h, cong_sub (ans_mod h) (show mulI e w Q % Q = e * w % Q by rw [mulI_yes h, mod_self]), Int.add_sub_cancel]
theorem ex_mod {Q b z y : Int} (h : okM Q = true) : exI Q b z y % Q = b * (z - y) % Q := by
  unfold exI
  rw [mulI_yes h, mod_self, subI_yes h]
  exact cong_mul rfl (mod_self _ _)

theorem pw_ans {e : Int} {B W D Z : Nat → Int} (he : 0 ≤ e) : ∀ n, (∀ k, k < n → 0 ≤ W k) → (∀ k, k < n → 0 ≤ D k) → (∀ k, k < n → Z k = D k + e * W k) → pw B Z n = pw B D n * pw B W n ^ e.toNat
  | 0, _, _, _ => by show (1 : Int) = 1 * 1 ^ e.toNat; rw [Int.one_pow, Int.one_mul]
  | n + 1, hW, hD, hZ => by
    show pw B Z n * B n ^ (Z n).toNat = pw B D n * B n ^ (D n).toNat * (pw B W n * B n ^ (W n).toNat) ^ e.toNat
    have hw := hW n (by omega)
    have hd := hD n (by omega)
    have hew : 0 ≤ e * W n := Int.mul_nonneg he hw
    rw [pw_ans he n (fun k hk => hW k (by omega)) (fun k hk => hD k (by omega)) (fun k hk => hZ k (by omega)), hZ n (by omega), Int.toNat_add hd hew, Int.toNat_mul he hw, Int.pow_add, Nat.mul_comm, Int.pow_mul, Int.mul_pow]
    simp only [Int.mul_assoc, Int.mul_comm, Int.mul_left_comm]

/-- Of a claim that holds the talk is accepted: the image of the answers. -/
theorem Righ.im_ans {P Q G e : Int} (h : Righ P Q G) {B W D : Nat → Int} (n : Nat) (hB : ∀ k, k < n → inI P Q (B k) = true) (hW : ∀ k, k < n → 0 ≤ W k) (hD : ∀ k, k < n → 0 ≤ D k) (he : 0 ≤ e) :
    imI P Q B (fun k => ansI Q e (W k) (D k)) n = mulI (imI P Q B D n) (expI P Q (imI P Q B W n) e) P := by
  rw [im_mod (W := fun k => D k + e * W k) n (fun k _ => ans_mod h.okq)]
  refine h.same (h.im_in n hB) (h.mul_in (h.im_in n hB) (h.exp_in (h.im_in n hB))) ?_
  rw [h.im_cong n hB (fun k hk => Int.add_nonneg (hD k hk) (Int.mul_nonneg he (hW k hk))), mul_cong h.ok (h.im_cong n hB hD) ((h.exp_cong (h.im_in n hB) he).trans (cong_pow (h.im_cong n hB hW) _)), pw_ans he n hW hD (fun _ _ => rfl)]
/-- What is faked of a real talk is its beginning. -/
theorem Righ.fake_ans {P Q G e : Int} (h : Righ P Q G) {B W D : Nat → Int} (n : Nat) (hB : ∀ k, k < n → inI P Q (B k) = true) (hW : ∀ k, k < n → 0 ≤ W k) (hD : ∀ k, k < n → 0 ≤ D k) (he : 0 ≤ e) :
    overI P (imI P Q B (fun k => ansI Q e (W k) (D k)) n) (expI P Q (imI P Q B W n) e) = imI P Q B D n := by
  have hi := h.im_in (W := D) n hB
  refine h.over_is (h.exp_in (h.im_in n hB)) (h.lt hi).1 (h.lt hi).2 ?_
  rw [h.im_ans n hB hW hD he, mulI_yes h.ok, mod_self]
/-- What is faked is accepted. -/
theorem Righ.fake_acc {P Q G x t : Int} (h : Righ P Q G) (hx : inI P Q x = true) (ht : inI P Q t = true) : mulI (overI P x t) t P = x := by
  refine h.same (h.mul_in (h.over_in hx ht) ht) hx ?_
  rw [mulI_yes h.ok, mod_self]
  exact h.over_cong ht x

/-- What is no multiple of a prime has an inverse modulo it. -/
theorem inv_prim {q s : Nat} (hq : prim q) (h0 : 0 < s) (h1 : s < q) : ∃ n, n < q ∧ s * n % q = 1 := by
  have hq2 := hq.1
  have hnd : ((List.range q).map fun k => s * k % q).Nodup := by
    refine nodup_map_range _ q fun i j hij hj he => ?_
    have hd : q ∣ s * j - s * i := Nat.dvd_of_mod_eq_zero (Nat.sub_mod_eq_zero_of_mod_eq he.symm)
    rw [← Nat.mul_sub] at hd
    rcases prim_or q s (j - i) hq hd with hc | hc
    · have := Nat.le_of_dvd h0 hc
      omega
    · have := Nat.le_of_dvd (by omega) hc
      omega
  have hfull := nodup_full _ (List.range q) hnd (fun x hx => by
    obtain ⟨k, _, rfl⟩ := List.mem_map.1 hx
    exact List.mem_range.2 (Nat.mod_lt _ (by omega))) (by simp) 1 (List.mem_range.2 (by omega))
  obtain ⟨k, hk, he⟩ := List.mem_map.1 hfull
  exact ⟨k, List.mem_range.1 hk, he⟩
/-- Unlike challenges: what makes 1 of their difference. -/
theorem Righ.inv_sub {P Q G e f : Int} (h : Righ P Q G) (hne : e % Q ≠ f % Q) : invB (subI e f Q) Q = true ∧ (subI e f Q) * invI (subI e f Q) Q % Q = 1 := by
  have hq := h.q0
  have hb := mod_bd (e - f) h.okq
  have hs : subI e f Q = (e - f) % Q := subI_yes h.okq
  have hnz : (e - f) % Q ≠ 0 := fun hc => hne (Int.emod_eq_emod_iff_emod_sub_eq_zero.2 hc)
  obtain ⟨n, hn, he⟩ := inv_prim h.grp.pq (s := ((e - f) % Q).toNat) (by omega) (by omega)
  have key : (subI e f Q) * (n : Int) % Q = 1 := by
    rw [hs]
    have e1 : (((((e - f) % Q).toNat * n % Q.toNat : Nat)) : Int) = 1 := by rw [he]; rfl
    rwa [Int.natCast_emod, Int.natCast_mul, Int.toNat_of_nonneg hb.1, Int.toNat_of_nonneg (by omega)] at e1
  obtain ⟨a, b⟩ := inv_has h.okq (by omega) (by omega) key
  exact ⟨a, by rw [b]; exact key⟩
theorem sub_same {Q e f : Int} (h : okM Q = true) (he : e % Q = f % Q) : invB (subI e f Q) Q = false := by
  have hs : subI e f Q = 0 := by
    rw [subI_yes h, cong_sub he rfl, Int.sub_self, Int.zero_emod]
  have h2 := okM_yes h
  rw [hs]
  exact (inv_not (g := Q) h (by omega) (Int.dvd_refl _) (Int.dvd_zero _)).1

/-- What is extracted of two talks by the same draws. -/
theorem Righ.ex_ans {P Q G e f w d : Int} (h : Righ P Q G) (hne : e % Q ≠ f % Q) : exI Q (invI (subI e f Q) Q) (ansI Q e w d) (ansI Q f w d) = w % Q := by
  have hi := (h.inv_sub hne).2
  generalize hI : invI (subI e f Q) Q = I at *
  rw [subI_yes h.okq] at hi
  have hx : exI Q I (ansI Q e w d) (ansI Q f w d) = exI Q I (ansI Q e w d) (ansI Q f w d) % Q := by
    unfold exI
    rw [mulI_yes h.okq, mod_self]
  rw [hx, ex_mod h.okq, cong_mul (a := I) (b := I) rfl (cong_sub (ans_mod h.okq) (ans_mod h.okq)), show I * (d + e * w - (d + f * w)) = (e - f) * I * w by rw [show d + e * w - (d + f * w) = (e - f) * w by rw [Int.sub_mul]; omega, Int.mul_comm (e - f) I, Int.mul_assoc]]
  rw [cong_mul (b := 1) (c := w) (d := w) ?_ rfl, Int.one_mul]
  rw [cong_mul (a := e - f) (b := (e - f) % Q) (mod_self _ _).symm rfl, hi]
  have := h.q0
  exact (Int.emod_eq_of_lt (by omega) (by omega)).symm

theorem pw_zero {B : Nat → Int} : ∀ n, pw B (fun _ => 0) n = 1
  | 0 => rfl
  | n + 1 => by
    show pw B (fun _ => 0) n * B n ^ (0 : Int).toNat = 1
    rw [pw_zero n]
    show (1 : Int) * B n ^ 0 = 1
    rw [Int.pow_zero, Int.one_mul]
theorem subI_nn (a b m : Int) : 0 ≤ subI a b m := (subI_bd a b m).1
theorem sub_back {a b m : Int} (h : okM m = true) : (subI a b m + b) % m = a % m := by
  rw [subI_yes h, cong_add (mod_self (a - b) m) rfl, Int.sub_add_cancel]
/-- Of two accepted talks with one beginning and unlike challenges: what the claim holds for. -/
theorem Righ.extracts {P Q G e f T t : Int} (h : Righ P Q G) {B z y : Nat → Int} (n : Nat) (hB : ∀ k, k < n → inI P Q (B k) = true) (hy : ∀ k, k < n → 0 ≤ y k) (he : 0 ≤ e) (hf : 0 ≤ f) (hT : inI P Q T = true)
    (hne : e % Q ≠ f % Q) (a1 : imI P Q B z n = mulI t (expI P Q T e) P) (a2 : imI P Q B y n = mulI t (expI P Q T f) P) : imI P Q B (fun k => exI Q (invI (subI e f Q) Q) (z k) (y k)) n = T := by
  have hI := (h.inv_sub hne).2
  have hI0 := (invI_bd (subI e f Q) Q).1
  have hs0 := subI_nn e f Q
  have hsb : (subI e f Q + f) % Q = e % Q := sub_back h.okq
  generalize invI (subI e f Q) Q = I at *
  generalize subI e f Q = s at *
  -- the difference of the answers
  have c1 : imI P Q B (fun k => subI (z k) (y k) Q) n * imI P Q B y n % P = imI P Q B z n % P := by
    rw [← im_mod (P := P) (B := B) (V := fun k => subI (z k) (y k) Q + 1 * y k) (W := z) n (fun k _ => by rw [Int.one_mul]; exact sub_back h.okq)]
    rw [h.im_cong n hB (W := fun k => subI (z k) (y k) Q + 1 * y k) (fun k hk => Int.add_nonneg (subI_nn _ _ _) (by rw [Int.one_mul]; exact hy k hk)), pw_ans (D := fun k => subI (z k) (y k) Q) (W := y) (e := 1) (by omega) n hy (fun k _ => subI_nn _ _ _) (fun _ _ => rfl)]
    rw [show (1 : Int).toNat = 1 from rfl, Int.pow_succ, Int.pow_zero, Int.one_mul]
    exact cong_mul (h.im_cong n hB (fun k _ => subI_nn _ _ _)) (h.im_cong n hB hy)
  -- it is the target to the difference of the challenges
  have c2 : imI P Q B (fun k => subI (z k) (y k) Q) n % P = T ^ s.toNat % P := by
    refine h.cancel (h.im_in (W := y) n hB) ?_
    rw [c1, a1, mul_cong h.ok rfl (h.exp_cong hT he)]
    have e1 : T ^ e.toNat % P = T ^ s.toNat * T ^ f.toNat % P := by
      rw [← h.exp_cong hT he, exp_mod hsb.symm, h.exp_cong hT (by omega), Int.toNat_add hs0 hf, Int.pow_add]
    have e2 : T ^ s.toNat * imI P Q B y n % P = T ^ s.toNat * (t * T ^ f.toNat) % P := by
      rw [a2]
      exact cong_mul rfl (mul_cong h.ok rfl (h.exp_cong hT hf))
    rw [e2, cong_mul (a := t) (b := t) rfl e1]
    congr 1
    simp only [Int.mul_left_comm]
  refine h.same (h.im_in n hB) hT ?_
  rw [im_mod (P := P) (B := B) (W := fun k => 0 + I * subI (z k) (y k) Q) n (fun k _ => by
    rw [Int.zero_add]
    unfold exI
    rw [mulI_yes h.okq, mod_self])]
  rw [h.im_cong n hB (fun k _ => by rw [Int.zero_add]; exact Int.mul_nonneg hI0 (subI_nn _ _ _)), pw_ans (D := fun _ => 0) (W := fun k => subI (z k) (y k) Q) hI0 n (fun k _ => subI_nn _ _ _) (fun _ _ => Int.le_refl 0) (fun _ _ => rfl), pw_zero, Int.one_mul]
  rw [cong_pow ((h.im_cong n hB (fun k _ => subI_nn _ _ _)).symm.trans c2) I.toNat, ← Int.pow_mul, ← Int.toNat_mul hs0 hI0, ← h.exp_cong hT (Int.mul_nonneg hs0 hI0), exp_mod (b := 1) ?_, h.exp_cong hT (by omega)]
  · show T ^ 1 % P = T % P
    rw [Int.pow_succ, Int.pow_zero, Int.one_mul]
  · have := h.q0
    rw [hI]
    exact (Int.emod_eq_of_lt (by omega) (by omega)).symm

end Go.Proofs.Ytmmicbdjafolpae
