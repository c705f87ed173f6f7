/-
  Numbers: primes, powers modulo a number, and what a certificate's row proves.
-/
namespace Go.Proofs.Ytmmicbdjafolpae

/-- No divisor but 1 and itself. -/
def prim (n : Nat) : Prop := 2 ≤ n ∧ ∀ d, d ∣ n → d = 1 ∨ d = n

theorem prim_two : prim 2 := by
  refine ⟨Nat.le_refl _, fun d h => ?_⟩
  have := Nat.le_of_dvd (by omega) h
  have : d ≠ 0 := by rintro rfl; simp at h
  omega

theorem prim_divides : ∀ n : Nat, 2 ≤ n → ∃ p, prim p ∧ p ∣ n := by
  intro n
  induction n using Nat.strongRecOn with
  | _ n ih =>
    intro h
    by_cases hp : prim n
    · exact ⟨n, hp, Nat.dvd_refl _⟩
    · have : ∃ d, d ∣ n ∧ d ≠ 1 ∧ d ≠ n := by
        refine Classical.byContradiction fun hc => hp ⟨h, fun d hd => ?_⟩
        refine Classical.byContradiction fun hne => hc ⟨d, hd, ?_, ?_⟩
        · exact fun e => hne (Or.inl e)
        · exact fun e => hne (Or.inr e)
      obtain ⟨d, hd, h1, h2⟩ := this
      have hle := Nat.le_of_dvd (by omega) hd
      have h0 : d ≠ 0 := by rintro rfl; simp at hd; omega
      obtain ⟨p, hp, hpd⟩ := ih d (by omega) (by omega)
      exact ⟨p, hp, Nat.dvd_trans hpd hd⟩

/-- A prime that divides a product of a prime f and r, and is not f, divides r. -/
theorem prim_strip (p f r : Nat) (hp : prim p) (hf : prim f) (hne : p ≠ f) (h : p ∣ f * r) : p ∣ r := by
  refine Nat.Coprime.dvd_of_dvd_mul_left ?_ h
  rcases hf.2 _ (Nat.gcd_dvd_right p f) with hg | hg
  · exact hg
  · have := Nat.gcd_dvd_left p f
    rw [hg] at this
    rcases hp.2 _ this with h1 | h1
    · have := hf.1; omega
    · exact absurd h1.symm hne

theorem prim_or (p a b : Nat) (hp : prim p) (h : p ∣ a * b) : p ∣ a ∨ p ∣ b := by
  by_cases ha : p ∣ a
  · exact Or.inl ha
  · refine Or.inr (Nat.Coprime.dvd_of_dvd_mul_left ?_ h)
    rcases hp.2 _ (Nat.gcd_dvd_left p a) with hg | hg
    · exact hg
    · exact absurd (hg ▸ Nat.gcd_dvd_right p a) ha

/-! ### powers -/
theorem pow_mod_one (A N k : Nat) (h : A % N = 1 % N) : A ^ k % N = 1 % N := by
  rw [Nat.pow_mod, h, ← Nat.pow_mod, Nat.one_pow]

theorem mulm {a b c d N : Nat} (h : a % N = b % N) (h' : c % N = d % N) : a * c % N = b * d % N := by
  rw [Nat.mul_mod, h, h', ← Nat.mul_mod]

theorem pow_mul_one (A N d k : Nat) (h : A ^ d % N = 1 % N) : A ^ (d * k) % N = 1 % N := by
  rw [Nat.pow_mul]
  exact pow_mod_one _ _ _ h

/-- Where two powers are alike, the power of the difference is 1. -/
theorem pow_diff (A N M i j : Nat) (hM : 1 ≤ M) (h : A ^ M % N = 1 % N) (hij : i ≤ j) (e : A ^ i % N = A ^ j % N) : A ^ (j - i) % N = 1 % N := by
  have hle : i ≤ M * i := Nat.le_mul_of_pos_left i hM
  have u : A ^ i * A ^ (M * i - i) % N = 1 % N := by
    rw [← Nat.pow_add, show i + (M * i - i) = M * i by omega]
    exact pow_mul_one A N M i h
  have v : A ^ j * A ^ (M * i - i) % N = 1 % N := by rw [← mulm e rfl]; exact u
  have t : A ^ (j - i) * (A ^ i * A ^ (M * i - i)) % N = 1 % N := by
    rw [← Nat.mul_assoc, ← Nat.pow_add, show j - i + i = j by omega]
    exact v
  have s := mulm (a := A ^ (j - i)) (b := A ^ (j - i)) (c := A ^ i * A ^ (M * i - i)) (d := 1) (N := N) rfl u
  rw [t, Nat.mul_one] at s
  exact s.symm

theorem least (P : Nat → Prop) (n : Nat) (h : P n) : ∃ d, P d ∧ ∀ k, k < d → ¬ P k := by
  induction n using Nat.strongRecOn with
  | _ n ih =>
    by_cases hk : ∃ k, k < n ∧ P k
    · obtain ⟨k, h1, h2⟩ := hk
      exact ih k h1 h2
    · exact ⟨n, h, fun k h1 h2 => hk ⟨k, h1, h2⟩⟩

theorem order_dvd (A N d k : Nat) (hd : 1 ≤ d) (h : A ^ d % N = 1 % N) (hl : ∀ j, j < d → ¬ (1 ≤ j ∧ A ^ j % N = 1 % N)) (hk : A ^ k % N = 1 % N) : d ∣ k := by
  have e : A ^ (k % d) % N = 1 % N := by
    have h1 := pow_mul_one A N d (k / d) h
    have h2 := mulm (a := A ^ (d * (k / d))) (b := 1) (c := A ^ (k % d)) (d := A ^ (k % d)) (N := N) h1 rfl
    rw [← Nat.pow_add, Nat.div_add_mod, Nat.one_mul, hk] at h2
    exact h2.symm
  have hlt := Nat.mod_lt k hd
  by_cases h0 : k % d = 0
  · exact Nat.dvd_of_mod_eq_zero h0
  · exact absurd ⟨by omega, e⟩ (hl _ hlt)

/-! ### counting -/
theorem nodup_le {α : Type} [DecidableEq α] : ∀ (l l' : List α), l.Nodup → (∀ x, x ∈ l → x ∈ l') → l.length ≤ l'.length
  | [], _, _, _ => Nat.zero_le _
  | a :: l, l', hn, hs => by
    have ha := hs a (List.mem_cons_self ..)
    have hn' := List.nodup_cons.1 hn
    have := nodup_le l (l'.erase a) hn'.2 fun x hx => by
      have hx' := hs x (List.mem_cons_of_mem _ hx)
      have hne : x ≠ a := fun e => hn'.1 (e ▸ hx)
      exact (List.mem_erase_of_ne hne).2 hx'
    rw [List.length_erase_of_mem ha] at this
    have hpos : 1 ≤ l'.length := by
      cases l' with
      | nil => simp at ha
      | cons _ _ => simp
    simp only [List.length_cons]
    omega

theorem nodup_full {α : Type} [DecidableEq α] (l l' : List α) (hn : l.Nodup) (hs : ∀ x, x ∈ l → x ∈ l') (hl : l'.length ≤ l.length) : ∀ y, y ∈ l' → y ∈ l := by
  intro y hy
  refine Classical.byContradiction fun hne => ?_
  have := nodup_le l (l'.erase y) hn fun x hx => (List.mem_erase_of_ne (show x ≠ y from fun e => hne (e ▸ hx))).2 (hs x hx)
  rw [List.length_erase_of_mem hy] at this
  have hpos : 1 ≤ l'.length := by
    cases l' with
    | nil => simp at hy
    | cons _ _ => simp
  omega

theorem nodup_map_range (f : Nat → Nat) (n : Nat) (h : ∀ i j, i < j → j < n → f i ≠ f j) : ((List.range n).map f).Nodup := by
  rw [List.nodup_iff_pairwise_ne, List.pairwise_map]
  refine List.Pairwise.imp_of_mem (R := (· < ·)) ?_ (List.pairwise_lt_range)
  intro a b _ hb hab
  exact h a b hab (List.mem_range.1 hb)

/-! ### what a row proves -/
/-- All numbers that are not 0 modulo N are powers of A. -/
theorem row_gen (N A : Nat) (hN : 2 < N) (h1 : A ^ (N - 1) % N = 1) (hf : ∀ p, prim p → p ∣ N - 1 → A ^ ((N - 1) / p) % N ≠ 1) :
    ∀ a, a % N ≠ 0 → ∃ i, i < N - 1 ∧ A ^ i % N = a % N := by
  have one : 1 % N = 1 := Nat.mod_eq_of_lt (by omega)
  have h1' : A ^ (N - 1) % N = 1 % N := by rw [one, h1]
  -- the order of A is N - 1
  obtain ⟨d, ⟨hd, hdo⟩, hl⟩ := least (fun k => 1 ≤ k ∧ A ^ k % N = 1 % N) (N - 1) ⟨by omega, h1'⟩
  have hdv := order_dvd A N d (N - 1) hd hdo hl h1'
  have hdN : d = N - 1 := by
    obtain ⟨c, hc⟩ := hdv
    by_cases hc1 : c = 1
    · rw [hc1, Nat.mul_one] at hc; exact hc.symm
    · have hc0 : c ≠ 0 := by rintro rfl; simp at hc; omega
      obtain ⟨p, hp, ⟨e, he⟩⟩ := prim_divides c (by omega)
      have hpN : p ∣ N - 1 := ⟨d * e, by rw [hc, he, Nat.mul_left_comm]⟩
      refine absurd ?_ (hf p hp hpN)
      have hq : (N - 1) / p = d * e := by
        rw [hc, he, Nat.mul_left_comm]
        exact Nat.mul_div_cancel_left _ (by have := hp.1; omega)
      rw [hq, pow_mul_one A N d e hdo, one]
  subst hdN
  intro a ha
  -- N - 1 unlike powers, none of them 0: all numbers
  have hnz : ∀ i, A ^ i % N ≠ 0 := by
    intro i h0
    have := mulm (a := A ^ i) (b := 0) (c := A ^ ((N - 1) * i - i)) (d := A ^ ((N - 1) * i - i)) (N := N) (by simpa using h0) rfl
    rw [← Nat.pow_add, show i + ((N - 1) * i - i) = (N - 1) * i by have := Nat.le_mul_of_pos_left i (show 0 < N - 1 by omega); omega, pow_mul_one A N (N - 1) i h1', Nat.zero_mul, one] at this
    simp at this
  have hnd : ((List.range (N - 1)).map (fun i => A ^ i % N - 1)).Nodup := by
    refine nodup_map_range _ _ fun i j hij hj he => ?_
    have hi0 := hnz i
    have hj0 := hnz j
    have e : A ^ i % N = A ^ j % N := by omega
    exact hl (j - i) (by omega) ⟨by omega, pow_diff A N (N - 1) i j (by omega) h1' (by omega) e⟩
  have hall := nodup_full _ (List.range (N - 1)) hnd (fun x hx => by
    obtain ⟨i, _, rfl⟩ := List.mem_map.1 hx
    have := Nat.mod_lt (A ^ i) (show 0 < N by omega)
    have := hnz i
    exact List.mem_range.2 (by omega)) (by simp)
  have hlt := Nat.mod_lt a (show 0 < N by omega)
  obtain ⟨i, hi, he⟩ := List.mem_map.1 (hall (a % N - 1) (List.mem_range.2 (by omega)))
  have := hnz i
  exact ⟨i, List.mem_range.1 hi, by omega⟩

theorem row_fermat (N A : Nat) (hN : 2 < N) (h1 : A ^ (N - 1) % N = 1) (hg : ∀ a, a % N ≠ 0 → ∃ i, i < N - 1 ∧ A ^ i % N = a % N) (a : Nat) (ha : a % N ≠ 0) : a ^ (N - 1) % N = 1 := by
  have one : 1 % N = 1 := Nat.mod_eq_of_lt (by omega)
  obtain ⟨i, _, e⟩ := hg a ha
  rw [Nat.pow_mod, ← e, ← Nat.pow_mod, ← Nat.pow_mul, Nat.mul_comm, pow_mul_one A N (N - 1) i (by rw [one, h1]), one]

/-- Where every number that is not 0 has its power N - 1 as 1, N is a prime. -/
theorem prim_of_fermat (N : Nat) (hN : 2 < N) (h : ∀ a, a % N ≠ 0 → a ^ (N - 1) % N = 1) : prim N := by
  refine ⟨by omega, fun d hd => ?_⟩
  have hle := Nat.le_of_dvd (by omega) hd
  by_cases hdN : d = N
  · exact Or.inr hdN
  · left
    have h0 : d ≠ 0 := by rintro rfl; simp at hd; omega
    have hm : d % N = d := Nat.mod_eq_of_lt (by omega)
    have hp := h d (by rw [hm]; exact h0)
    -- d divides d ^ (N - 1) and N, so the rest 1
    have d1 : d ∣ d ^ (N - 1) := Nat.dvd_trans (Nat.dvd_refl d) (by
      have : d ^ (N - 1) = d ^ (N - 2) * d := by rw [← Nat.pow_succ]; congr 1; omega
      rw [this]; exact Nat.dvd_mul_left _ _)
    have d2 := (Nat.dvd_mod_iff hd).2 d1
    rw [hp] at d2
    exact Nat.dvd_one.1 d2

theorem fermat_two (a : Nat) (ha : a % 2 ≠ 0) : a ^ (2 - 1) % 2 = 1 := by
  simp; omega

end Go.Proofs.Ytmmicbdjafolpae
