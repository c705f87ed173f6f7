/-
  What the functions of modn answer, as functions of whole numbers, and the arithmetic under their loops.
-/
namespace Go.Proofs.Ytmmicbdjafolpae

/-- A modulus: from 2 to 2 to the 62. -/
def okM (m : Int) : Bool := decide (2 ≤ m) && decide (m ≤ 4611686018427387904)
def addI (a b m : Int) : Int := if okM m then (a + b) % m else 0
def subI (a b m : Int) : Int := if okM m then (a - b) % m else 0
def mulI (a b m : Int) : Int := if okM m then (a * b) % m else 0
def powI (a e m : Int) : Int := if okM m then a ^ e.toNat % m else 0
/-- The search for what makes 1 of a. -/
def invS (a m : Int) : Option Nat := if okM m then (List.range m.toNat).find? (fun n => (a * (n : Int)) % m == 1) else none
def invB (a m : Int) : Bool := (invS a m).isSome
def invI (a m : Int) : Int := ((invS a m).getD 0 : Nat)

theorem okM_yes {m : Int} (h : okM m = true) : 2 ≤ m ∧ m ≤ 4611686018427387904 := by
  unfold okM at h; simpa using h
theorem okM_of {m : Int} (h : 2 ≤ m) (h' : m ≤ 4611686018427387904) : okM m = true := by
  unfold okM; simp [h, h']
theorem okM_not {m : Int} (h : m < 2 ∨ 4611686018427387904 < m) : okM m = false := by
  unfold okM; simp; omega
theorem okM_no {m : Int} (h : okM m = false) : m < 2 ∨ 4611686018427387904 < m := by
  unfold okM at h; simp at h; omega

theorem addI_yes {a b m : Int} (h : okM m = true) : addI a b m = (a + b) % m := by unfold addI; simp [h]
theorem subI_yes {a b m : Int} (h : okM m = true) : subI a b m = (a - b) % m := by unfold subI; simp [h]
theorem mulI_yes {a b m : Int} (h : okM m = true) : mulI a b m = (a * b) % m := by unfold mulI; simp [h]
theorem powI_yes {a e m : Int} (h : okM m = true) : powI a e m = a ^ e.toNat % m := by unfold powI; simp [h]
theorem addI_no {a b m : Int} (h : okM m = false) : addI a b m = 0 := by unfold addI; simp [h]
theorem subI_no {a b m : Int} (h : okM m = false) : subI a b m = 0 := by unfold subI; simp [h]
theorem mulI_no {a b m : Int} (h : okM m = false) : mulI a b m = 0 := by unfold mulI; simp [h]
theorem powI_no {a e m : Int} (h : okM m = false) : powI a e m = 0 := by unfold powI; simp [h]
theorem invS_no {a m : Int} (h : okM m = false) : invS a m = none := by unfold invS; simp [h]

theorem mod_bd (x : Int) {m : Int} (h : okM m = true) : 0 ≤ x % m ∧ x % m < m := by
  have := okM_yes h
  exact ⟨Int.emod_nonneg _ (by omega), Int.emod_lt_of_pos _ (by omega)⟩

theorem addI_bd (a b m : Int) : 0 ≤ addI a b m ∧ addI a b m ≤ 4611686018427387903 := by
  cases h : okM m
  · rw [addI_no h]; omega
  · rw [addI_yes h]; have := mod_bd (a + b) h; have := okM_yes h; omega
theorem subI_bd (a b m : Int) : 0 ≤ subI a b m ∧ subI a b m ≤ 4611686018427387903 := by
  cases h : okM m
  · rw [subI_no h]; omega
  · rw [subI_yes h]; have := mod_bd (a - b) h; have := okM_yes h; omega
theorem mulI_bd (a b m : Int) : 0 ≤ mulI a b m ∧ mulI a b m ≤ 4611686018427387903 := by
  cases h : okM m
  · rw [mulI_no h]; omega
  · rw [mulI_yes h]; have := mod_bd (a * b) h; have := okM_yes h; omega
theorem powI_bd (a b m : Int) : 0 ≤ powI a b m ∧ powI a b m ≤ 4611686018427387903 := by
  cases h : okM m
  · rw [powI_no h]; omega
  · rw [powI_yes h]; have := mod_bd (a ^ b.toNat) h; have := okM_yes h; omega

/-! ### congruences -/
theorem cong_of {a b m : Int} (k : Int) (h : a = b + m * k) : a % m = b % m := by rw [h, Int.add_mul_emod_self_left]
theorem cong_mul {a b c d m : Int} (h : a % m = b % m) (h' : c % m = d % m) : a * c % m = b * d % m := by
  rw [Int.mul_emod, h, h', ← Int.mul_emod]
theorem cong_add {a b c d m : Int} (h : a % m = b % m) (h' : c % m = d % m) : (a + c) % m = (b + d) % m := by
  rw [Int.add_emod, h, h', ← Int.add_emod]
theorem cong_sub {a b c d m : Int} (h : a % m = b % m) (h' : c % m = d % m) : (a - c) % m = (b - d) % m := by
  rw [Int.sub_emod, h, h', ← Int.sub_emod]
theorem cong_pow {a b m : Int} (h : a % m = b % m) : ∀ n : Nat, a ^ n % m = b ^ n % m
  | 0 => by simp
  | n + 1 => by rw [Int.pow_succ, Int.pow_succ]; exact cong_mul (cong_pow h n) h
theorem mod_self (a m : Int) : a % m % m = a % m := Int.emod_emod_of_dvd a (Int.dvd_refl m)

/-! ### sums -/
theorem add_eq (a b m : Int) : (a % m + b % m) % m = (a + b) % m := by rw [← Int.add_emod]
theorem add_eq2 (a b m : Int) (hm : 0 < m) : (if m ≤ a % m + b % m then a % m + b % m - m else a % m + b % m) = (a + b) % m := by
  have h1 := Int.emod_nonneg a (show m ≠ 0 by omega)
  have h2 := Int.emod_lt_of_pos a hm
  have h3 := Int.emod_nonneg b (show m ≠ 0 by omega)
  have h4 := Int.emod_lt_of_pos b hm
  rw [← add_eq]
  generalize a % m = x at *
  generalize b % m = y at *
  split
  · rw [show x + y = (x + y - m) + m * 1 by omega, Int.add_mul_emod_self_left, Int.emod_eq_of_lt (by omega) (by omega)]; omega
  · rw [Int.emod_eq_of_lt (by omega) (by omega)]
theorem sub_eq (a b m : Int) : (a % m + m - b % m) % m = (a - b) % m := by
  rw [show a % m + m - b % m = (a % m - b % m) + m * 1 by omega, Int.add_mul_emod_self_left, ← Int.sub_emod]

/-! ### products by doubling -/
theorem mul_odd (s t h m e d : Int) : (s + t - m * e + (t + t - m * d) * h) % m = (s + t * (2 * h + 1)) % m := by
  refine (cong_of (e + d * h) ?_).symm
  rw [Int.sub_mul, Int.add_mul, Int.mul_add m, ← Int.mul_assoc m, Int.mul_add t, Int.mul_left_comm]
  omega
theorem mul_even (s t h m d : Int) : (s + (t + t - m * d) * h) % m = (s + t * (2 * h)) % m := by
  refine (cong_of (d * h) ?_).symm
  rw [Int.sub_mul, Int.add_mul, ← Int.mul_assoc m, Int.mul_left_comm]
  omega

/-! ### powers by squaring -/
theorem pow_two_mul (s : Int) (h : Nat) : s ^ (2 * h) = (s * s) ^ h := by
  rw [Int.pow_mul]; congr 1; rw [Int.pow_succ, Int.pow_succ]; simp
theorem pow_odd (p s m : Int) (h : Nat) : (p * s % m) * (s * s % m) ^ h % m = p * s ^ (2 * h + 1) % m := by
  rw [Int.pow_succ, pow_two_mul, Int.mul_comm ((s * s) ^ h), ← Int.mul_assoc]
  exact cong_mul (mod_self _ _) (cong_pow (mod_self _ _) h)
theorem pow_even (p s m : Int) (h : Nat) : p * (s * s % m) ^ h % m = p * s ^ (2 * h) % m := by
  rw [pow_two_mul]
  exact cong_mul rfl (cong_pow (mod_self _ _) h)

/-! ### what makes 1 of a number -/
theorem inv_has {a m n : Int} (h : okM m = true) (h0 : 0 ≤ n) (h1 : n < m) (h2 : a * n % m = 1) : invB a m = true ∧ invI a m = n := by
  have hm := okM_yes h
  obtain ⟨k, rfl⟩ := Int.eq_ofNat_of_zero_le h0
  unfold invB invI invS
  simp only [h, if_true]
  cases hf : (List.range m.toNat).find? (fun n : Nat => (a * (n : Int)) % m == 1) with
  | none =>
    have := List.find?_eq_none.1 hf k (List.mem_range.2 (by omega))
    simp [h2] at this
  | some j =>
    have hj := List.find?_some hf
    have hr := List.mem_range.1 (List.mem_of_find?_eq_some hf)
    simp at hj
    refine ⟨rfl, ?_⟩
    -- two such numbers are one
    have e1 : a * (j : Int) * (k : Int) % m = (k : Int) % m := by
      have := cong_mul (a := a * (j : Int)) (b := 1) (c := (k : Int)) (d := (k : Int)) (m := m) (by rw [hj, Int.emod_eq_of_lt (by omega) (by omega)]) rfl
      rw [this, Int.one_mul]
    have e2 : a * (k : Int) * (j : Int) % m = (j : Int) % m := by
      have := cong_mul (a := a * (k : Int)) (b := 1) (c := (j : Int)) (d := (j : Int)) (m := m) (by rw [h2, Int.emod_eq_of_lt (by omega) (by omega)]) rfl
      rw [this, Int.one_mul]
    rw [Int.mul_right_comm, e2, Int.emod_eq_of_lt (by omega) (by omega), Int.emod_eq_of_lt (by omega) (by omega)] at e1
    simpa using e1

theorem inv_not {a m g : Int} (h : okM m = true) (hg : 2 ≤ g) (h1 : g ∣ m) (h2 : g ∣ a) : invB a m = false ∧ invI a m = 0 := by
  have hm := okM_yes h
  unfold invB invI invS
  simp only [h, if_true]
  cases hf : (List.range m.toNat).find? (fun n : Nat => (a * (n : Int)) % m == 1) with
  | none => simp
  | some j =>
    have hj := List.find?_some hf
    simp at hj
    have e := Int.mul_ediv_add_emod (a * (j : Int)) m
    rw [hj] at e
    have : g ∣ 1 := by
      have d1 : g ∣ a * (j : Int) := Int.dvd_trans h2 (Int.dvd_mul_right _ _)
      have d2 : g ∣ m * (a * (j : Int) / m) := Int.dvd_trans h1 (Int.dvd_mul_right _ _)
      have := Int.dvd_sub d1 d2
      rwa [show a * (j : Int) - m * (a * (j : Int) / m) = 1 by omega] at this
    have := Int.le_of_dvd (by omega) this
    omega

theorem inv_bad {a m : Int} (h : okM m = false) : invB a m = false ∧ invI a m = 0 := by
  unfold invB invI; rw [invS_no h]; simp

theorem inv_is {a m : Int} (hb : invB a m = true) : okM m = true ∧ 0 ≤ invI a m ∧ invI a m < m ∧ a * invI a m % m = 1 := by
  have h : okM m = true := by
    cases h : okM m
    · rw [(inv_bad h).1] at hb; cases hb
    · rfl
  have hm := okM_yes h
  refine ⟨h, ?_⟩
  unfold invB invS at hb
  unfold invI invS
  simp only [h, if_true] at hb ⊢
  cases hf : (List.range m.toNat).find? (fun n : Nat => (a * (n : Int)) % m == 1) with
  | none => rw [hf] at hb; cases hb
  | some j =>
    have hj := List.find?_some hf
    have hr := List.mem_range.1 (List.mem_of_find?_eq_some hf)
    simp at hj
    simp
    exact ⟨by omega, hj⟩

theorem inv_none {a m : Int} (hb : invB a m = false) : invI a m = 0 := by
  unfold invB at hb
  unfold invI
  cases hf : invS a m with
  | none => rfl
  | some j => rw [hf] at hb; cases hb

theorem invI_bd (a m : Int) : 0 ≤ invI a m ∧ invI a m ≤ 4611686018427387903 := by
  cases hb : invB a m
  · rw [inv_none hb]; omega
  · have ⟨h, h1, h2, _⟩ := inv_is hb
    have := okM_yes h
    omega

/-- One round of Euclid's way: what the new pair is modulo m. -/
theorem euclid_step {a m rest next f g : Int} (h1 : m ∣ a * f - rest) (h2 : m ∣ a * g - next) : m ∣ a * ((f - rest / next * g % m) % m) - rest % next := by
  have e1 := Int.mul_ediv_add_emod rest next
  have e2 := Int.mul_ediv_add_emod (rest / next * g) m
  have e3 := Int.mul_ediv_add_emod (f - rest / next * g % m) m
  have key : a * ((f - rest / next * g % m) % m) - rest % next
      = (a * f - rest) - (a * g - next) * (rest / next) + m * (a * (rest / next * g / m) - a * ((f - rest / next * g % m) / m)) := by
    generalize rest / next = k at *
    generalize rest % next = r at *
    generalize k * g / m = u at *
    generalize k * g % m = v at *
    generalize (f - v) / m = p at *
    generalize (f - v) % m = q at *
    have hv : v = k * g - m * u := by omega
    have hq : q = f - v - m * p := by omega
    have hr : r = rest - next * k := by omega
    subst hv
    subst hq
    subst hr
    simp only [Int.mul_sub, Int.sub_mul]
    rw [Int.mul_left_comm a m u, Int.mul_left_comm a m p, Int.mul_assoc a g k, Int.mul_comm g k]
    omega
  rw [key]
  refine Int.dvd_add (Int.dvd_sub h1 ?_) (Int.dvd_mul_right _ _)
  exact Int.dvd_trans h2 (Int.dvd_mul_right _ _)

theorem euclid_div {m a rest next : Int} (h : ∀ d : Int, d ∣ rest → d ∣ next → d ∣ m ∧ d ∣ a) : ∀ d : Int, d ∣ next → d ∣ rest % next → d ∣ m ∧ d ∣ a := by
  intro d h1 h2
  refine h d ?_ h1
  have e := Int.mul_ediv_add_emod rest next
  rw [← e]
  exact Int.dvd_add (Int.dvd_trans h1 (Int.dvd_mul_right _ _)) h2

theorem euclid_yes {a m f : Int} (h : okM m = true) (h0 : 0 ≤ f) (h1 : f < m) (hd : m ∣ a * f - 1) : invB a m = true ∧ invI a m = f := by
  have hm := okM_yes h
  refine inv_has h h0 h1 ?_
  obtain ⟨k, hk⟩ := hd
  rw [show a * f = 1 + m * k by omega, Int.add_mul_emod_self_left, Int.emod_eq_of_lt (by omega) (by omega)]

theorem euclid_no {a m g : Int} (h : okM m = true) (hg : 1 ≤ g) (hg' : g ≠ 1) (hd : ∀ d : Int, d ∣ g → d ∣ 0 → d ∣ m ∧ d ∣ a) : invB a m = false ∧ invI a m = 0 := by
  have ⟨h1, h2⟩ := hd g (Int.dvd_refl _) (Int.dvd_zero _)
  exact inv_not h (by omega) h1 h2

theorem euclid_start (a m : Int) : m ∣ a * 0 - m ∧ m ∣ a * 1 - a % m ∧ ∀ d : Int, d ∣ m → d ∣ a % m → d ∣ m ∧ d ∣ a := by
  refine ⟨?_, ?_, ?_⟩
  · rw [Int.mul_zero, Int.zero_sub]; exact Int.dvd_neg.2 (Int.dvd_refl _)
  · have e := Int.mul_ediv_add_emod a m
    rw [Int.mul_one, show a - a % m = m * (a / m) by omega]
    exact Int.dvd_mul_right _ _
  · intro d h1 h2
    refine ⟨h1, ?_⟩
    have e := Int.mul_ediv_add_emod a m
    rw [← e]
    exact Int.dvd_add (Int.dvd_trans h1 (Int.dvd_mul_right _ _)) h2

/-! ### the rules -/
theorem rule_dist (a b c m : Int) : mulI a (addI b c m) m = addI (mulI a b m) (mulI a c m) m := by
  cases h : okM m
  · rw [mulI_no h, addI_no h]
  · rw [mulI_yes h, mulI_yes h, mulI_yes h, addI_yes h, addI_yes h, ← Int.add_emod, ← Int.mul_add]
    exact cong_mul rfl (mod_self _ _)
theorem rule_back (a b m : Int) (h : okM m = true) : addI (subI a b m) b m = a % m := by
  rw [addI_yes h, subI_yes h]
  have := cong_add (a := (a - b) % m) (b := a - b) (c := b) (d := b) (m := m) (mod_self _ _) rfl
  rw [this]
  congr 1
  omega
theorem rule_comm (a b m : Int) : mulI a b m = mulI b a m := by
  unfold mulI; rw [Int.mul_comm]
theorem rule_pow (a x y m : Int) (hx : 0 ≤ x) (hy : 0 ≤ y) : powI a (x + y) m = mulI (powI a x m) (powI a y m) m := by
  cases h : okM m
  · rw [powI_no h, mulI_no h]
  · rw [powI_yes h, powI_yes h, powI_yes h, mulI_yes h, ← Int.mul_emod, show (x + y).toNat = x.toNat + y.toNat by omega, Int.pow_add]

end Go.Proofs.Ytmmicbdjafolpae
