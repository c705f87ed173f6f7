/-
  Certificates of primes as plain functions of whole numbers, and that what a certificate proves is a prime.
-/
import Derived.Test.YtmmicbdjafolpaeNum
import Derived.Test.YtmmicbdjafolpaeSpec
namespace Go.Proofs.Ytmmicbdjafolpae

/-- What is left of r when f is divided out as often as it goes, so many steps at most. -/
def stripN : Nat → Int → Int → Int
  | 0, _, r => r
  | k + 1, f, r => if r % f = 0 then stripN k f (r / f) else r
def stripI (f r : Int) : Int := stripN r.toNat f r

theorem quo_bd {f r : Int} (hf : 2 ≤ f) (hr : 1 ≤ r) (h : r % f = 0) : 1 ≤ r / f ∧ r / f < r := by
  have e := Int.mul_ediv_add_emod r f
  rw [h, Int.add_zero] at e
  have h1 : 1 ≤ r / f := by
    refine Classical.byContradiction fun hc => ?_
    have : f * (r / f) ≤ f * 0 := Int.mul_le_mul_of_nonneg_left (by omega) (by omega)
    omega
  have h2 : 2 * (r / f) ≤ f * (r / f) := Int.mul_le_mul_of_nonneg_right hf (by omega)
  omega

theorem stripN_enough (f : Int) (hf : 2 ≤ f) : ∀ (n k k' : Nat) (r : Int), 1 ≤ r → r.toNat ≤ n → n ≤ k → n ≤ k' → stripN k f r = stripN k' f r
  | 0, _, _, r, hr, hn, _, _ => by omega
  | n + 1, 0, _, r, hr, hn, hk, _ => by omega
  | n + 1, _ + 1, 0, r, hr, hn, _, hk => by omega
  | n + 1, k + 1, k' + 1, r, hr, hn, hk, hk' => by
    unfold stripN
    split
    · rename_i h
      have ⟨h1, h2⟩ := quo_bd hf hr h
      exact stripN_enough f hf n k k' _ h1 (by omega) (by omega) (by omega)
    · rfl

theorem stripI_step {f r : Int} (hf : 2 ≤ f) (hr : 1 ≤ r) (h : r % f = 0) : stripI f r = stripI f (r / f) := by
  have ⟨h1, h2⟩ := quo_bd hf hr h
  have e : stripI f r = stripN (r.toNat - 1) f (r / f) := by
    unfold stripI
    obtain ⟨k, hk⟩ : ∃ k, r.toNat = k + 1 := ⟨r.toNat - 1, by omega⟩
    rw [hk]
    show (if r % f = 0 then stripN k f (r / f) else r) = _
    rw [if_pos h]
    rfl
  rw [e]
  exact stripN_enough f hf (r / f).toNat _ _ _ h1 (Nat.le_refl _) (by omega) (Nat.le_refl _)

theorem stripI_stop {f r : Int} (hr : 1 ≤ r) (h : r % f ≠ 0) : stripI f r = r := by
  unfold stripI
  obtain ⟨k, hk⟩ : ∃ k, r.toNat = k + 1 := ⟨r.toNat - 1, by omega⟩
  rw [hk]
  show (if r % f = 0 then stripN k f (r / f) else r) = _
  rw [if_neg h]

theorem stripN_bd (f : Int) (hf : 2 ≤ f) : ∀ (k : Nat) (r : Int), 1 ≤ r → 1 ≤ stripN k f r ∧ stripN k f r ≤ r
  | 0, r, hr => ⟨hr, Int.le_refl _⟩
  | k + 1, r, hr => by
    unfold stripN
    split
    · rename_i h
      have ⟨h1, h2⟩ := quo_bd hf hr h
      have ⟨h3, h4⟩ := stripN_bd f hf k _ h1
      exact ⟨h3, by omega⟩
    · exact ⟨hr, Int.le_refl _⟩
theorem stripI_bd {f r : Int} (hf : 2 ≤ f) (hr : 1 ≤ r) : 1 ≤ stripI f r ∧ stripI f r ≤ r := stripN_bd f hf _ r hr

/-- r is a product of powers of the k numbers from place i on, of each once at least. -/
def partsG (F : Nat → Int) : Nat → Nat → Int → Bool
  | 0, _, r => r == 1
  | k + 1, i, r => (r % F i == 0) && partsG F k (i + 1) (stripI (F i) r)

/-- 2, or one of the first k numbers. -/
def namedB (N : Nat → Int) (k : Nat) (n : Int) : Bool := n == 2 || (List.range k).any fun i => N i == n
/-- The factors of a row: 1 to 16, rising, each named. -/
def standB (F : Nat → Int) (L : Nat) (N : Nat → Int) (k : Nat) : Bool :=
  decide (1 ≤ L) && decide (L ≤ 16) && (List.range L).all fun j => (j == 0 || decide (F (j - 1) < F j)) && namedB N k (F j)
/-- The powers of A come to 1 at n - 1 and not ahead of it. -/
def orderB (n A : Int) (F : Nat → Int) (L : Nat) : Bool := powI A (n - 1) n == 1 && (List.range L).all fun j => !(powI A ((n - 1) / F j) n == 1)
/-- A row holds, behind k rows. -/
def rowB (n A : Int) (F : Nat → Int) (L : Nat) (N : Nat → Int) (k : Nat) : Bool :=
  decide (3 ≤ n) && decide (n ≤ 4611686018427387904) && standB F L N k && partsG F L 0 (n - 1) && orderB n A F L
/-- A certificate of n rows holds. -/
def holdsB (N A : Nat → Int) (F : Nat → Nat → Int) (L : Nat → Nat) (n : Nat) : Bool := decide (n ≤ 64) && (List.range n).all fun i => rowB (N i) (A i) (F i) (L i) N i
def provedB (N A : Nat → Int) (F : Nat → Nat → Int) (L : Nat → Nat) (n : Nat) (x : Int) : Bool := holdsB N A F L n && namedB N n x

theorem namedB_iff {N : Nat → Int} {k : Nat} {n : Int} : namedB N k n = true ↔ n = 2 ∨ ∃ i, i < k ∧ N i = n := by
  unfold namedB
  simp [List.any_eq_true]
theorem namedB_no {N : Nat → Int} {k : Nat} {n : Int} (h2 : n ≠ 2) (h : ∀ i, i < k → N i ≠ n) : namedB N k n = false := by
  rw [← Bool.not_eq_true, namedB_iff]
  rintro (h' | ⟨i, hi, he⟩)
  · exact h2 h'
  · exact h i hi he
theorem standB_iff {F : Nat → Int} {L : Nat} {N : Nat → Int} {k : Nat} : standB F L N k = true ↔ (1 ≤ L ∧ L ≤ 16) ∧ ∀ j, j < L → (j = 0 ∨ F (j - 1) < F j) ∧ namedB N k (F j) = true := by
  unfold standB
  simp [List.all_eq_true]
theorem orderB_iff {n A : Int} {F : Nat → Int} {L : Nat} : orderB n A F L = true ↔ powI A (n - 1) n = 1 ∧ ∀ j, j < L → powI A ((n - 1) / F j) n ≠ 1 := by
  unfold orderB
  simp [List.all_eq_true]
theorem rowB_iff {n A : Int} {F : Nat → Int} {L : Nat} {N : Nat → Int} {k : Nat} : rowB n A F L N k = true ↔ 3 ≤ n ∧ n ≤ 4611686018427387904 ∧ standB F L N k = true ∧ partsG F L 0 (n - 1) = true ∧ orderB n A F L = true := by
  unfold rowB
  simp [and_assoc]
theorem holdsB_iff {N A : Nat → Int} {F : Nat → Nat → Int} {L : Nat → Nat} {n : Nat} : holdsB N A F L n = true ↔ n ≤ 64 ∧ ∀ i, i < n → rowB (N i) (A i) (F i) (L i) N i = true := by
  unfold holdsB
  simp [List.all_eq_true]
theorem provedB_iff {N A : Nat → Int} {F : Nat → Nat → Int} {L : Nat → Nat} {n : Nat} {x : Int} : provedB N A F L n x = true ↔ holdsB N A F L n = true ∧ namedB N n x = true := by
  unfold provedB
  simp

theorem no_of {b : Bool} (h : b = true → False) : b = false := by cases b with
  | false => rfl
  | true => exact (h rfl).elim

/-- Where the rows ahead have numbers from 3 on, the factors of a row are 2 or above. -/
theorem stand_two {F : Nat → Int} {L : Nat} {N : Nat → Int} {k : Nat} (h : standB F L N k = true) (hN : ∀ i, i < k → 3 ≤ N i) : ∀ j, j < L → 2 ≤ F j := by
  intro j hj
  rcases namedB_iff.1 ((standB_iff.1 h).2 j hj).2 with h | ⟨i, hi, h⟩
  · omega
  · have := hN i hi
    omega

theorem holds_three {N A : Nat → Int} {F : Nat → Nat → Int} {L : Nat → Nat} {n : Nat} (h : ∀ i, i < n → rowB (N i) (A i) (F i) (L i) N i = true) : ∀ i, i < n → 3 ≤ N i := fun i hi => (rowB_iff.1 (h i hi)).1

/-- Of a certificate that holds each beginning does. -/
theorem holds_begin {N A : Nat → Int} {F : Nat → Nat → Int} {L : Nat → Nat} {n k : Nat} (h : holdsB N A F L n = true) (hk : k ≤ n) : holdsB N A F L k = true := by
  have ⟨h1, h2⟩ := holdsB_iff.1 h
  exact holdsB_iff.2 ⟨by omega, fun i hi => h2 i (by omega)⟩
theorem proved_begin {N A : Nat → Int} {F : Nat → Nat → Int} {L : Nat → Nat} {n k : Nat} {x : Int} (h : holdsB N A F L n = true) (hk : k ≤ n) (hp : provedB N A F L k x = true) : provedB N A F L n x = true := by
  refine provedB_iff.2 ⟨h, namedB_iff.2 ?_⟩
  rcases namedB_iff.1 (provedB_iff.1 hp).2 with h | ⟨i, hi, h⟩
  · exact Or.inl h
  · exact Or.inr ⟨i, by omega, h⟩

/-! ### what is proved is a prime -/
theorem strip_prim (p q : Nat) (hp : prim p) (hq : prim q) (hne : p ≠ q) : ∀ (k : Nat) (r : Int), 1 ≤ r → (p : Int) ∣ r → (p : Int) ∣ stripN k q r
  | 0, _, _, h => h
  | k + 1, r, hr, h => by
    unfold stripN
    split
    · rename_i h0
      have h2 : (2 : Int) ≤ (q : Int) := by have := hq.1; omega
      have ⟨h1, _⟩ := quo_bd h2 hr h0
      refine strip_prim p q hp hq hne k _ h1 ?_
      have e := Int.mul_ediv_add_emod r q
      rw [h0, Int.add_zero] at e
      rw [← e] at h
      obtain ⟨s, hs⟩ := Int.eq_ofNat_of_zero_le (show 0 ≤ r / (q : Int) by omega)
      rw [hs] at h ⊢
      have h' : p ∣ q * s := by exact_mod_cast h
      exact_mod_cast prim_strip p q s hp hq hne h'
    · exact h

theorem parts_has (F : Nat → Int) (p : Nat) (hp : prim p) : ∀ (k i : Nat) (r : Int), 1 ≤ r → (∀ j, i ≤ j → j < i + k → ∃ q : Nat, prim q ∧ F j = (q : Int)) → partsG F k i r = true → (p : Int) ∣ r → ∃ j, i ≤ j ∧ j < i + k ∧ F j = (p : Int)
  | 0, i, r, hr, _, h, hd => by
    simp [partsG] at h
    subst h
    have := Int.le_of_dvd (by omega) hd
    have := hp.1
    omega
  | k + 1, i, r, hr, hF, h, hd => by
    obtain ⟨q, hq, e⟩ := hF i (Nat.le_refl _) (by omega)
    by_cases hne : p = q
    · exact ⟨i, Nat.le_refl _, by omega, by rw [e, hne]⟩
    · unfold partsG at h
      rw [e] at h
      simp only [Bool.and_eq_true] at h
      have h2 : (2 : Int) ≤ (q : Int) := by have := hq.1; omega
      have hs := strip_prim p q hp hq hne r.toNat r hr hd
      have hb := stripI_bd h2 hr
      obtain ⟨j, h3, h4, h5⟩ := parts_has F p hp k (i + 1) (stripI q r) hb.1 (fun j h3 h4 => hF j (by omega) (by omega)) h.2 hs
      exact ⟨j, by omega, by omega, h5⟩

theorem powI_nat (b e q : Nat) (h : okM (q : Int) = true) : powI (b : Int) (e : Int) (q : Int) = ((b ^ e % q : Nat) : Int) := by
  rw [powI_yes h, Int.toNat_natCast, Int.natCast_emod, Int.natCast_pow]

theorem holds_prim {N A : Nat → Int} {F : Nat → Nat → Int} {L : Nat → Nat} {n : Nat} (hA : ∀ i, i < n → 0 ≤ A i) (h : ∀ i, i < n → rowB (N i) (A i) (F i) (L i) N i = true) :
    ∀ i, i < n → ∃ q : Nat, N i = (q : Int) ∧ prim q ∧ 2 < q ∧ ∀ a : Nat, a % q ≠ 0 → a ^ (q - 1) % q = 1 := by
  intro i
  induction i using Nat.strongRecOn with
  | _ i ih =>
    intro hi
    obtain ⟨h1, h2, h3, h4, h5⟩ := rowB_iff.1 (h i hi)
    obtain ⟨o1, o2⟩ := orderB_iff.1 h5
    have hF : ∀ j, j < L i → ∃ q : Nat, prim q ∧ F i j = (q : Int) := by
      intro j hj
      rcases namedB_iff.1 ((standB_iff.1 h3).2 j hj).2 with e | ⟨k, hk, e⟩
      · exact ⟨2, prim_two, e⟩
      · obtain ⟨q, e1, e2, _⟩ := ih k hk (by omega)
        exact ⟨q, e2, by rw [← e, e1]⟩
    obtain ⟨q, hq⟩ := Int.eq_ofNat_of_zero_le (show 0 ≤ N i by omega)
    obtain ⟨b, hb⟩ := Int.eq_ofNat_of_zero_le (hA i hi)
    rw [hq] at h1 h2 h4 o1 o2 ⊢
    rw [hb] at o1 o2
    have hok : okM (q : Int) = true := okM_of (by omega) h2
    have hq2 : 2 < q := by omega
    have e1 : ((q : Int) - 1) = ((q - 1 : Nat) : Int) := by omega
    rw [e1] at h4 o1 o2
    rw [powI_nat b _ q hok] at o1
    have g1 : b ^ (q - 1) % q = 1 := by exact_mod_cast o1
    have gen := row_gen q b hq2 g1 fun p hp hd => by
      obtain ⟨j, _, hj, hF'⟩ := parts_has (F i) p hp (L i) 0 ((q - 1 : Nat) : Int) (by omega) (fun j _ hj => hF j (by omega)) h4 (by exact_mod_cast hd)
      have := o2 j (by omega)
      rw [hF', ← Int.natCast_ediv, powI_nat b _ q hok] at this
      exact fun hc => this (by exact_mod_cast hc)
    have fer := row_fermat q b hq2 g1 gen
    exact ⟨q, rfl, prim_of_fermat q hq2 fer, hq2, fer⟩

theorem proved_prim {N A : Nat → Int} {F : Nat → Nat → Int} {L : Nat → Nat} {n : Nat} {x : Int} (hA : ∀ i, i < n → 0 ≤ A i) (h : provedB N A F L n x = true) :
    okM x = true ∧ ∃ q : Nat, x = (q : Int) ∧ prim q ∧ ∀ a : Nat, a % q ≠ 0 → a ^ (q - 1) % q = 1 := by
  obtain ⟨h1, h2⟩ := provedB_iff.1 h
  obtain ⟨h3, h4⟩ := holdsB_iff.1 h1
  rcases namedB_iff.1 h2 with rfl | ⟨i, hi, rfl⟩
  · exact ⟨by decide +kernel, 2, rfl, prim_two, fermat_two⟩
  · obtain ⟨q, e1, e2, e3, e4⟩ := holds_prim hA h4 i hi
    have := rowB_iff.1 (h4 i hi)
    exact ⟨okM_of (by omega) this.2.1, q, e1, e2, e4⟩

/-- No number from 2 on whose square is at most a prime divides it. -/
theorem prim_root {q : Nat} (hq : prim q) {d : Int} (h0 : 2 ≤ d) (h1 : d * d ≤ (q : Int)) : (q : Int) % d ≠ 0 := by
  intro h
  obtain ⟨k, rfl⟩ := Int.eq_ofNat_of_zero_le (show 0 ≤ d by omega)
  have hd : k ∣ q := by
    refine Nat.dvd_of_mod_eq_zero ?_
    exact_mod_cast h
  have h2 : 2 * (k : Int) ≤ (k : Int) * k := Int.mul_le_mul_of_nonneg_right h0 (by omega)
  rcases hq.2 k hd with h | h <;> omega

theorem fermat_zero {q : Nat} {a : Int} (hq : prim q) (hok : okM (q : Int) = true) (h : a % (q : Int) = 0) : powI a ((q : Int) - 1) q = 0 := by
  rw [powI_yes hok]
  have h2 := hq.1
  obtain ⟨k, hk⟩ : ∃ k, ((q : Int) - 1).toNat = k + 1 := ⟨q - 2, by omega⟩
  rw [hk, Int.pow_succ, Int.mul_emod, h]
  simp

theorem fermat_one {q : Nat} {a : Int} (h0 : 0 ≤ a) (hok : okM (q : Int) = true) (hf : ∀ a : Nat, a % q ≠ 0 → a ^ (q - 1) % q = 1) (h : a % (q : Int) ≠ 0) : powI a ((q : Int) - 1) q = 1 := by
  have hm := okM_yes hok
  obtain ⟨b, rfl⟩ := Int.eq_ofNat_of_zero_le h0
  have := hf b (fun hc => h (by exact_mod_cast hc))
  rw [show ((q : Int) - 1) = ((q - 1 : Nat) : Int) by omega, powI_nat b _ q hok, this]
  rfl

theorem fermat_inv {q : Nat} {a : Int} (h0 : 0 ≤ a) (hq : prim q) (hok : okM (q : Int) = true) (hf : ∀ a : Nat, a % q ≠ 0 → a ^ (q - 1) % q = 1) (h : a % (q : Int) ≠ 0) : invB a q = true ∧ mulI a (invI a q) q = 1 := by
  have hm := okM_yes hok
  have h1 := fermat_one h0 hok hf h
  have hb : invB a q = true := by
    have h2 := hq.1
    refine (inv_has (n := a ^ (q - 2) % q) hok (mod_bd _ hok).1 (mod_bd _ hok).2 ?_).1
    rw [powI_yes hok, show ((q : Int) - 1).toNat = (q - 2) + 1 by omega, Int.pow_succ, Int.mul_comm] at h1
    rw [← h1]
    exact cong_mul rfl (mod_self _ _)
  obtain ⟨_, _, _, h2⟩ := inv_is hb
  exact ⟨hb, by rw [mulI_yes hok]; exact h2⟩

/-- All that a proved number x does with a number y. -/
theorem fermat_all {N A : Nat → Int} {F : Nat → Nat → Int} {L : Nat → Nat} {n : Nat} {x y : Int} (hA : ∀ i, i < n → 0 ≤ A i) (h : provedB N A F L n x = true) (y0 : 0 ≤ y) :
    2 ≤ x ∧ x ≤ 4611686018427387904 ∧ (y % x = 0 → powI y (x - 1) x = 0) ∧ (y % x ≠ 0 → powI y (x - 1) x = 1 ∧ invB y x = true ∧ mulI y (invI y x) x = 1) := by
  obtain ⟨hok, q, rfl, hq, hf⟩ := proved_prim hA h
  have hm := okM_yes hok
  refine ⟨hm.1, hm.2, fermat_zero hq hok, fun hy => ⟨fermat_one y0 hok hf hy, fermat_inv y0 hq hok hf hy⟩⟩

/-- A proved number has no divisor up to its root. -/
theorem true_all {N A : Nat → Int} {F : Nat → Nat → Int} {L : Nat → Nat} {n : Nat} {x : Int} (hA : ∀ i, i < n → 0 ≤ A i) (h : provedB N A F L n x = true) :
    2 ≤ x ∧ ∀ d : Int, 2 ≤ d → d * d ≤ x → x % d ≠ 0 := by
  obtain ⟨hok, q, rfl, hq, hf⟩ := proved_prim hA h
  exact ⟨(okM_yes hok).1, fun d h0 h1 => prim_root hq h0 h1⟩

theorem root_bd {d x : Int} (h : d * d ≤ x) (hx : x ≤ 10000000) : d < 10000 := by
  refine Classical.byContradiction fun hc => ?_
  have : 10000 * 10000 ≤ d * d := Int.mul_le_mul (by omega) (by omega) (by omega) (by omega)
  omega
theorem sq_bd {d : Int} (h0 : 2 ≤ d) (h1 : d ≤ 10000) : 0 ≤ d * d ∧ d * d ≤ 100000000 := by
  have h2 : d * d ≤ 10000 * 10000 := Int.mul_le_mul h1 h1 (by omega) (by omega)
  have h3 : 0 * 0 ≤ d * d := Int.mul_le_mul (by omega) (by omega) (by omega) (by omega)
  omega

end Go.Proofs.Ytmmicbdjafolpae
