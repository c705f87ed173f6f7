/-
  The squares modulo a prime that is twice a prime and one: which numbers they are, how many, and the powers of one of them.
-/
import Derived.Test.YtmmicbdjafolpaeNum
import Derived.Test.YtmmicbdjafolpaeSpec
namespace Go.Proofs.Ytmmicbdjafolpae

/-- A group's two primes. -/
structure Grp (p q : Nat) : Prop where
  two : p = 2 * q + 1
  five : 5 ≤ q
  pp : prim p
  pq : prim q
  fer : ∀ a, a % p ≠ 0 → a ^ (p - 1) % p = 1

/-- An element. -/
def elm (p q x : Nat) : Bool := decide (1 ≤ x ∧ x < p ∧ x ^ q % p = 1)
theorem elm_iff {p q x : Nat} : elm p q x = true ↔ 1 ≤ x ∧ x < p ∧ x ^ q % p = 1 := by simp [elm]
theorem elm_not {p q x : Nat} : elm p q x = false ↔ ¬ (1 ≤ x ∧ x < p ∧ x ^ q % p = 1) := by
  rw [← elm_iff]
  cases elm p q x <;> simp

theorem Grp.odd {p q : Nat} (g : Grp p q) : q % 2 = 1 := by
  refine Classical.byContradiction fun h => ?_
  have h2 : 2 ∣ q := Nat.dvd_of_mod_eq_zero (by omega)
  have := g.five
  rcases g.pq.2 2 h2 with h | h <;> omega

theorem Grp.sq {p q : Nat} (g : Grp p q) {a : Nat} (ha : a % p ≠ 0) : a ^ q % p = 1 ∨ a ^ q % p = p - 1 := by
  have hp := g.two
  have h5 := g.five
  have h1 := g.fer a ha
  rw [show p - 1 = q + q by omega, Nat.pow_add, Nat.mul_mod] at h1
  have hlt : a ^ q % p < p := Nat.mod_lt _ (by omega)
  generalize a ^ q % p = b at *
  have hb : 1 ≤ b := by
    refine Classical.byContradiction fun h => ?_
    have : b = 0 := by omega
    rw [this] at h1
    simp at h1
  have hd : p ∣ (b - 1) * (b + 1) := by
    have e : (b - 1) * (b + 1) = b * b - 1 := by
      obtain ⟨c, rfl⟩ : ∃ c, b = c + 1 := ⟨b - 1, by omega⟩
      simp only [Nat.add_sub_cancel]
      have : (c + 1) * (c + 1) = c * (c + 1 + 1) + 1 := by
        rw [Nat.add_mul, Nat.mul_add c (c + 1) 1, Nat.mul_one, Nat.one_mul]
        omega
      omega
    rw [e]
    have h2 := Nat.div_add_mod (b * b) p
    exact ⟨b * b / p, by omega⟩
  rcases prim_or p _ _ g.pp hd with h | h
  · left
    rcases Nat.eq_zero_or_pos (b - 1) with h0 | h0
    · omega
    · have := Nat.le_of_dvd h0 h
      omega
  · right
    have := Nat.le_of_dvd (by omega) h
    omega

theorem neg_pow (a : Int) : ∀ k : Nat, (-a) ^ (2 * k + 1) = -(a ^ (2 * k + 1))
  | 0 => by
    show (-a) ^ (0 + 1) = -(a ^ (0 + 1))
    rw [Int.pow_succ, Int.pow_succ]
    simp
  | k + 1 => by
    have ih := neg_pow a k
    rw [show 2 * (k + 1) + 1 = (2 * k + 1) + 1 + 1 by omega, Int.pow_succ (-a), Int.pow_succ (-a), ih, Int.pow_succ a (2 * k + 1 + 1), Int.pow_succ a (2 * k + 1), Int.neg_mul_neg, Int.mul_neg]

theorem Grp.neg {p q : Nat} (g : Grp p q) {a : Nat} (h1 : 1 ≤ a) (h2 : a < p) : elm p q (p - a) = !elm p q a := by
  have hp := g.two
  have h5 := g.five
  have ho := g.odd
  have key : (((p - a) ^ q % p : Nat) : Int) = -((a ^ q : Nat) : Int) % (p : Int) := by
    rw [Int.natCast_emod, Int.natCast_pow, Int.natCast_pow, show ((p - a : Nat) : Int) = (p : Int) - (a : Int) by omega]
    obtain ⟨k, rfl⟩ : ∃ k, q = 2 * k + 1 := ⟨q / 2, by omega⟩
    rw [← neg_pow]
    exact cong_pow (cong_of 1 (by omega)) _
  have hm : (-((a ^ q : Nat) : Int)) % (p : Int) = -(((a ^ q % p : Nat) : Int)) % (p : Int) := by
    rw [Int.natCast_emod]
    generalize ((a ^ q : Nat) : Int) = X
    refine cong_of (-(X / (p : Int))) ?_
    have := Int.emod_add_mul_ediv X (p : Int)
    rw [Int.mul_neg]
    omega
  rw [hm] at key
  rcases g.sq (a := a) (by rw [Nat.mod_eq_of_lt h2]; omega) with h | h
  · rw [h] at key
    have e1 : elm p q a = true := elm_iff.2 ⟨h1, h2, h⟩
    have e2 : elm p q (p - a) = false := elm_not.2 fun ⟨_, _, h3⟩ => by
      rw [h3] at key
      have : (-((1 : Nat) : Int)) % (p : Int) = (p : Int) - 1 := by
        rw [show (-((1 : Nat) : Int)) = ((p : Int) - 1) + (p : Int) * (-1) by omega, Int.add_mul_emod_self_left, Int.emod_eq_of_lt (by omega) (by omega)]
      omega
    rw [e1, e2]
    rfl
  · rw [h] at key
    have e1 : elm p q a = false := elm_not.2 fun ⟨_, _, h3⟩ => by omega
    have e2 : elm p q (p - a) = true := elm_iff.2 ⟨by omega, by omega, by
      have : (-((p - 1 : Nat) : Int)) % (p : Int) = 1 := by
        rw [show (-((p - 1 : Nat) : Int)) = 1 + (p : Int) * (-1) by omega, Int.add_mul_emod_self_left, Int.emod_eq_of_lt (by omega) (by omega)]
      omega⟩
    rw [e1, e2]
    rfl

/-! ### how many there are -/
def sumN (f : Nat → Nat) : Nat → Nat
  | 0 => 0
  | n + 1 => sumN f n + f n
theorem sumN_split (f : Nat → Nat) (m : Nat) : ∀ k, sumN f (m + k) = sumN f m + sumN (fun i => f (m + i)) k
  | 0 => rfl
  | k + 1 => by
    show sumN f (m + k) + f (m + k) = sumN f m + (sumN (fun i => f (m + i)) k + f (m + k))
    rw [sumN_split f m k]
    omega
theorem sumN_back (f : Nat → Nat) (q : Nat) : ∀ j, j ≤ q → sumN f (q + 1 - j) + sumN (fun i => f (q - i)) j = sumN f (q + 1)
  | 0, _ => rfl
  | j + 1, h => by
    have ih := sumN_back f q j (by omega)
    show sumN f (q + 1 - (j + 1)) + (sumN (fun i => f (q - i)) j + f (q - j)) = _
    rw [← ih, show q + 1 - j = (q - j) + 1 by omega, show q + 1 - (j + 1) = q - j by omega]
    show _ = sumN f (q - j) + f (q - j) + _
    omega
theorem sumN_pair (f g : Nat → Nat) : ∀ k, (∀ i, i < k → f i + g i = 1) → sumN f k + sumN g k = k
  | 0, _ => rfl
  | k + 1, h => by
    have ih := sumN_pair f g k fun i hi => h i (by omega)
    have := h k (by omega)
    show sumN f k + f k + (sumN g k + g k) = k + 1
    omega
def cnt (p q n : Nat) : Nat := sumN (fun x => if elm p q x then 1 else 0) n
/-- Half of the numbers below p, but 0, are elements. -/
theorem Grp.count {p q : Nat} (g : Grp p q) : cnt p q p = q := by
  have hp := g.two
  have h5 := g.five
  unfold cnt
  have e0 : (fun x => if elm p q x then 1 else 0) 0 = 0 := by
    have : elm p q 0 = false := elm_not.2 fun h => by omega
    simp [this]
  have h1 := sumN_split (fun x => if elm p q x then 1 else 0) (q + 1) q
  have h2 := sumN_back (fun x => if elm p q x then 1 else 0) q q (Nat.le_refl _)
  have h3 := sumN_pair (fun i => (fun x => if elm p q x then 1 else 0) (q + 1 + i)) (fun i => (fun x => if elm p q x then 1 else 0) (q - i)) q fun i hi => by
    have hn := g.neg (a := q - i) (by omega) (by omega)
    rw [show p - (q - i) = q + 1 + i by omega] at hn
    show (if elm p q (q + 1 + i) then 1 else 0) + (if elm p q (q - i) then 1 else 0) = 1
    rw [hn]
    cases elm p q (q - i) <;> simp
  have h4 : sumN (fun x => if elm p q x then 1 else 0) (q + 1 - q) = 0 := by
    rw [show q + 1 - q = 0 + 1 by omega]
    show 0 + (fun x => if elm p q x then 1 else 0) 0 = 0
    rw [e0]
  have h6 : sumN (fun x => if elm p q x then 1 else 0) p = sumN (fun x => if elm p q x then 1 else 0) (q + 1 + q) := by rw [show q + 1 + q = p by omega]
  rw [h6, h1]
  dsimp only at h2 h3 h4 ⊢
  omega

/-- The powers of an element that isn't 1 are unlike. -/
theorem Grp.powers {p q : Nat} (g : Grp p q) {x : Nat} (hx : elm p q x = true) (hx1 : x ≠ 1) {i j : Nat} (hij : i < j) (hj : j < q) : x ^ i % p ≠ x ^ j % p := by
  intro he
  have hp := g.two
  have h5 := g.five
  obtain ⟨x1, x2, x3⟩ := elm_iff.1 hx
  have e1 : (1 : Nat) % p = 1 := Nat.mod_eq_of_lt (by omega)
  have hd := pow_diff x p q i j (by omega) (by rw [x3, e1]) (by omega) he
  -- the least positive exponent
  obtain ⟨d, ⟨hd1, hd2⟩, hl⟩ := least (fun k => 1 ≤ k ∧ x ^ k % p = 1 % p) (j - i) ⟨by omega, hd⟩
  have hq : d ∣ q := order_dvd x p d q hd1 hd2 hl (by rw [x3, e1])
  have hji : d ∣ j - i := order_dvd x p d (j - i) hd1 hd2 hl hd
  rcases g.pq.2 d hq with h | h
  · subst h
    rw [e1] at hd2
    have : x ^ 1 % p = x := by rw [Nat.pow_one, Nat.mod_eq_of_lt x2]
    omega
  · have := Nat.le_of_dvd (by omega) hji
    omega

/-! ### numbers laid on elements -/
def layN (p q k : Nat) : Nat := if elm p q (k + 1) then k + 1 else p - k - 1
def backN (p q x : Nat) : Nat := if x ≤ q then x - 1 else p - x - 1
theorem Grp.lay_in {p q : Nat} (g : Grp p q) {k : Nat} (h : k < q) : elm p q (layN p q k) = true := by
  have hp := g.two
  unfold layN
  cases he : elm p q (k + 1) with
  | true => rw [if_pos rfl]; exact he
  | false =>
    rw [if_neg (by simp)]
    have := g.neg (a := k + 1) (by omega) (by omega)
    rw [he] at this
    rw [show p - k - 1 = p - (k + 1) by omega, this]
    rfl
theorem Grp.back_lay {p q : Nat} (g : Grp p q) {k : Nat} (h : k < q) : backN p q (layN p q k) = k := by
  have hp := g.two
  unfold layN backN
  split
  · rw [if_pos (by omega)]
    omega
  · rw [if_neg (by omega)]
    omega
theorem Grp.back_lt {p q : Nat} (g : Grp p q) {x : Nat} (h : elm p q x = true) : backN p q x < q := by
  have hp := g.two
  have h5 := g.five
  obtain ⟨h1, h2, _⟩ := elm_iff.1 h
  unfold backN
  split <;> omega
theorem Grp.lay_back {p q : Nat} (g : Grp p q) {x : Nat} (h : elm p q x = true) : layN p q (backN p q x) = x := by
  have hp := g.two
  have h5 := g.five
  obtain ⟨h1, h2, _⟩ := elm_iff.1 h
  unfold layN backN
  by_cases hx : x ≤ q
  · rw [if_pos hx, show x - 1 + 1 = x by omega, if_pos h]
  · rw [if_neg hx, show p - x - 1 + 1 = p - x by omega]
    have hn := g.neg h1 h2
    rw [h] at hn
    rw [hn, if_neg (by simp)]
    omega

end Go.Proofs.Ytmmicbdjafolpae
