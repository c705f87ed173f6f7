/-
  What the proof needs, part 1.
-/
import Derived.Test.YtlnmjbbpenhdbaaGreatKp00
import Derived.BigQuiet
import Derived.WalkSmall
namespace Go.Proofs.YtlnmjbbpenhdbaaGreat
open Tryz
open List renaming drop_zero → zd0
set_option linter.unusedSimpArgs false
set_option linter.unusedVariables false
set_option maxRecDepth 100000
set_option maxHeartbeats 32000000
section
def foldN {A : Type} (f : A -> A -> A) (e : A) (F : Nat -> A) : Nat -> A
 | 0 => e
 | n + 1 => f (foldN f e F n) (F n)
theorem zb9 {A : Type} {f : A -> A -> A} {e : A} {F G : Nat -> A} : ∀ n, (∀ i, i < n -> F i = G i) -> foldN f e F n = foldN f e G n
 | 0, _ => rfl
 | n + 1, h => by
  show f (foldN f e F n) (F n) = f (foldN f e G n) (G n)
  rw [zb9 n fun i hi => h i (by omega), h n (by omega)]
def put8 {A : Type} (G : Nat -> A) (m : Nat) (c : A) : Nat -> A := fun i => if i = m then c else G i
theorem foldN_put {A : Type} {f : A -> A -> A} {e : A} (ha : ∀ x y z, f (f x y) z = f x (f y z)) (hc : ∀ x y, f x y = f y x) (G : Nat -> A) (m : Nat) (c : A) : ∀ n, m < n -> f (foldN f e G n) c = f (foldN f e (put8 G m c) n) (G m)
 | 0, h => by omega
 | n + 1, h => by
  show f (f (foldN f e G n) (G n)) c = f (f (foldN f e (put8 G m c) n) (put8 G m c n)) (G m)
  by_cases hm : m = n
  ·subst hm
   have e1 : foldN f e (put8 G m c) m = foldN f e G m := zb9 m fun i hi => by unfold put8; rw [if_neg (by omega)]
   have e2 : put8 G m c m = c := by simp [put8]
   rw [e1, e2, ha, ha, hc (G m)]
  ·have e2 : put8 G m c n = G n := by unfold put8; rw [if_neg (by omega)]
   have ih := foldN_put (e := e) ha hc G m c n (by omega)
   rw [e2, ha, hc (G n), <- ha, ih, ha, ha, hc (G m)]
structure Ord8 (n : Nat) (o : Nat -> Nat) : Prop where
 lt : ∀ i, i < n -> o i < n
 inj : ∀ i j, i < n -> j < n -> o i = o j -> i = j
 sur : ∀ k, k < n -> ∃ i, i < n /\ o i = k
theorem Ord8.less {n m : Nat} {o : Nat -> Nat} (h : Ord8 (n + 1) o) (hm : m < n + 1) (he : o m = n) : Ord8 n (put8 o m (o n)) := by
 have hput : ∀ i, i ≠ m -> put8 o m (o n) i = o i := fun i hi => by unfold put8; rw [if_neg hi]
 have hself : put8 o m (o n) m = o n := by simp [put8]
 have hnm : ∀ i, i < n + 1 -> o i = n -> i = m := fun i hi hx => h.inj i m hi hm (by rw [hx, he])
 refine ⟨fun i hi => ?_, fun i j hi hj hij => ?_, fun k hk => ?_⟩
 ·by_cases hq : i = m
  ·subst hq
   rw [hself]
   have h1 := h.lt n (by omega)
   have h2 : o n ≠ n := fun hx => by have := hnm n (by omega) hx; omega
   omega
  ·rw [hput i hq]
   have h1 := h.lt i (by omega)
   have h2 : o i ≠ n := fun hx => hq (hnm i (by omega) hx)
   omega
 ·by_cases hq : i = m
  ·by_cases hr : j = m
   ·omega
   ·subst hq
    rw [hself, hput j hr] at hij
    have := h.inj n j (by omega) (by omega) hij
    omega
  ·by_cases hr : j = m
   ·subst hr
    rw [hself, hput i hq] at hij
    have := h.inj i n (by omega) (by omega) hij
    omega
   ·rw [hput i hq, hput j hr] at hij
    exact h.inj i j (by omega) (by omega) hij
 ·obtain ⟨i, hi, hik⟩ := h.sur k (by omega)
  have him : i ≠ m := fun hx => by subst hx; omega
  by_cases hin : i = n
  ·subst hin
   have hmi : m < i := by
    have : m ≠ i := fun hx => him hx.symm
    omega
   exact ⟨m, hmi, by rw [hself]; exact hik⟩
  ·exact ⟨i, by omega, by rw [hput i him]; exact hik⟩
theorem Ord8.fold {A : Type} {f : A -> A -> A} {e : A} (ha : ∀ x y z, f (f x y) z = f x (f y z)) (hc : ∀ x y, f x y = f y x) (F : Nat -> A) : ∀ (n : Nat) (o : Nat -> Nat), Ord8 n o -> foldN f e (fun i => F (o i)) n = foldN f e F n
 | 0, _, _ => rfl
 | n + 1, o, h => by
  obtain ⟨m, hm, he⟩ := h.sur n (by omega)
  have ih := Ord8.fold (e := e) ha hc F n _ (h.less hm he)
  show f (foldN f e (fun i => F (o i)) n) (F (o n)) = f (foldN f e F n) (F n)
  by_cases hmn : m = n
  ·subst hmn
   have e1 : foldN f e (fun i => F (put8 o m (o m) i)) m = foldN f e (fun i => F (o i)) m := zb9 m fun i hi => by unfold put8; rw [if_neg (by omega)]
   rw [<- ih, e1, he]
  ·have h1 := foldN_put (e := e) ha hc (fun i => F (o i)) m (F (o n)) n (by omega)
   have e1 : foldN f e (put8 (fun i => F (o i)) m (F (o n))) n = foldN f e (fun i => F (put8 o m (o n) i)) n := zb9 n fun i _ => by
    unfold put8
    split <;> rfl
   rw [h1, e1, ih, he]
def ordK8 (O : NI) (k : Int) : Nat -> Nat
 | 0 => 0
 | n + 1 => ordK8 O k n + (if O n = k then 1 else 0)
def ordB8 (O : NI) (m : Nat) : Nat -> Nat
 | 0 => 0
 | n + 1 => ordB8 O m n + (if 0 <= O n /\ O n < (m : Int) then 1 else 0)
theorem ordB8_le (O : NI) (m : Nat) : ∀ n, ordB8 O m n <= n
 | 0 => Nat.le_refl _
 | n + 1 => by
  have := ordB8_le O m n
  show ordB8 O m n + _ <= n + 1
  split <;> omega
theorem ordB8_all {O : NI} {m : Nat} : ∀ n, ordB8 O m n = n -> ∀ i, i < n -> 0 <= O i /\ O i < (m : Int)
 | 0, _, i, hi => by omega
 | n + 1, h, i, hi => by
  have h' : ordB8 O m n + (if 0 <= O n /\ O n < (m : Int) then 1 else 0) = n + 1 := h
  have hle := ordB8_le O m n
  by_cases hx : 0 <= O n /\ O n < (m : Int)
  ·rw [if_pos hx] at h'
   by_cases hin : i = n
   ·subst hin; exact hx
   ·exact ordB8_all n (by omega) i (by omega)
  ·rw [if_neg hx] at h'
   omega
theorem zcE (O : NI) (m : Nat) : ∀ n, ordB8 O (m + 1) n = ordB8 O m n + ordK8 O (m : Int) n
 | 0 => rfl
 | n + 1 => by
  have ih := zcE O m n
  show ordB8 O (m + 1) n + (if 0 <= O n /\ O n < ((m + 1 : Nat) : Int) then 1 else 0) = ordB8 O m n + (if 0 <= O n /\ O n < (m : Int) then 1 else 0) + (ordK8 O m n + (if O n = (m : Int) then 1 else 0))
  rw [ih]
  by_cases h1 : O n = (m : Int)
  ·rw [if_pos (by omega), if_neg (by omega), if_pos h1]; omega
  ·by_cases h2 : 0 <= O n /\ O n < (m : Int)
   ·rw [if_pos (by omega), if_pos h2, if_neg h1]; omega
   ·rw [if_neg (by omega), if_neg h2, if_neg h1]; omega
theorem zb6 {O : NI} {n : Nat} : ∀ m, (∀ k, k < m -> ordK8 O (k : Nat) n = 1) -> ordB8 O m n = m
 | 0, _ => by
  have : ∀ j, ordB8 O 0 j = 0 := fun j => by
   induction j with
   | zero => rfl
   | succ j ih =>
    show ordB8 O 0 j + (if 0 <= O j /\ O j < ((0 : Nat) : Int) then 1 else 0) = 0
    rw [ih, if_neg (by omega)]
  exact this n
 | m + 1, h => by rw [zcE, zb6 m fun k hk => h k (by omega), h m (by omega)]
theorem zd0 {O : NI} {k : Int} : ∀ n, 0 < ordK8 O k n -> ∃ i, i < n /\ O i = k
 | 0, h => by cases h
 | n + 1, h => by
  have h' : 0 < ordK8 O k n + (if O n = k then 1 else 0) := h
  by_cases hx : O n = k
  ·exact ⟨n, by omega, hx⟩
  ·rw [if_neg hx] at h'
   obtain ⟨i, hi, he⟩ := zd0 n (by omega)
   exact ⟨i, by omega, he⟩
theorem ordK8_one {O : NI} {k : Int} {i : Nat} : ∀ n, i < n -> O i = k -> 1 <= ordK8 O k n
 | 0, h, _ => by omega
 | n + 1, h, he => by
  show 1 <= ordK8 O k n + (if O n = k then 1 else 0)
  by_cases hin : i = n
  ·subst hin; rw [if_pos he]; omega
  ·have := ordK8_one n (by omega : i < n) he; omega
theorem zeb {O : NI} {k : Int} {i j : Nat} (hij : i < j) (hi : O i = k) (hj : O j = k) : ∀ n, j < n -> 2 <= ordK8 O k n
 | 0, h => by omega
 | n + 1, h => by
  show 2 <= ordK8 O k n + (if O n = k then 1 else 0)
  by_cases hjn : j = n
  ·subst hjn
   have := ordK8_one j hij hi
   rw [if_pos hj]
   omega
  ·have := zeb hij hi hj n (by omega); omega
theorem zet {O : NI} {n : Nat} (h : ∀ k, k < n -> ordK8 O (k : Nat) n = 1) : (∀ i, i < n -> 0 <= O i /\ O i < (n : Int)) /\ Ord8 n (fun i => (O i).toNat) := by
 have hall := ordB8_all n (zb6 n h)
 refine ⟨hall, fun i hi => by have := hall i hi; omega, fun i j hi hj he => ?_, fun k hk => ?_⟩
 ·have h1 := hall i hi
  have h2 := hall j hj
  have he' : O i = O j := by omega
  have hk := h (O i).toNat (by omega)
  have hc : (((O i).toNat : Nat) : Int) = O i := by omega
  rw [hc] at hk
  by_cases hlt : i < j
  ·have := zeb hlt rfl he'.symm n hj; omega
  ·by_cases hgt : j < i
   ·have := zeb (k := O i) hgt he'.symm rfl n hi; omega
   ·omega
 ·obtain ⟨i, hi, he⟩ := zd0 n (by rw [h k hk]; omega)
  exact ⟨i, hi, by show (O i).toNat = k; omega⟩
def prim (n : Nat) : Prop := 2 <= n /\ ∀ d, d ∣ n -> d = 1 ∨ d = n
theorem prim_two : prim 2 := by
 refine ⟨Nat.le_refl _, fun d h => ?_⟩
 have := Nat.le_of_dvd (by omega) h
 have : d ≠ 0 := by rintro rfl; simp at h
 omega
theorem prim_divides : ∀ n : Nat, 2 <= n -> ∃ p, prim p /\ p ∣ n := by
 intro n
 induction n using Nat.strongRecOn with
 | _ n ih =>
  intro h
  by_cases hp : prim n
  ·exact ⟨n, hp, Nat.dvd_refl _⟩
  ·have : ∃ d, d ∣ n /\ d ≠ 1 /\ d ≠ n := by
    refine Classical.byContradiction fun hc => hp ⟨h, fun d hd => ?_⟩
    refine Classical.byContradiction fun hne => hc ⟨d, hd, ?_, ?_⟩
    ·exact fun e => hne (Or.inl e)
    ·exact fun e => hne (Or.inr e)
   obtain ⟨d, hd, h1, h2⟩ := this
   have hle := Nat.le_of_dvd (by omega) hd
   have h0 : d ≠ 0 := by rintro rfl; simp at hd; omega
   obtain ⟨p, hp, hpd⟩ := ih d (by omega) (by omega)
   exact ⟨p, hp, Nat.dvd_trans hpd hd⟩
theorem prim_strip (p f r : Nat) (hp : prim p) (hf : prim f) (hne : p ≠ f) (h : p ∣ f * r) : p ∣ r := by
 refine Nat.Coprime.dvd_of_dvd_mul_left ?_ h
 rcases hf.2 _ (Nat.gcd_dvd_right p f) with hg | hg
 ·exact hg
 ·have := Nat.gcd_dvd_left p f
  rw [hg] at this
  rcases hp.2 _ this with h1 | h1
  ·have := hf.1; omega
  ·exact absurd h1.symm hne
theorem pow_mod_one (A N k : Nat) (h : A % N = 1 % N) : A ^ k % N = 1 % N := by
 rw [Nat.pow_mod, h, <- Nat.pow_mod, Nat.one_pow]
theorem mulm {a b c d N : Nat} (h : a % N = b % N) (h' : c % N = d % N) : a * c % N = b * d % N := by
 rw [Nat.mul_mod, h, h', <- Nat.mul_mod]
theorem zbw (A N d k : Nat) (h : A ^ d % N = 1 % N) : A ^ (d * k) % N = 1 % N := by
 rw [Nat.pow_mul]
 exact pow_mod_one _ _ _ h
theorem pow_diff (A N M i j : Nat) (hM : 1 <= M) (h : A ^ M % N = 1 % N) (hij : i <= j) (e : A ^ i % N = A ^ j % N) : A ^ (j - i) % N = 1 % N := by
 have hle : i <= M * i := Nat.le_mul_of_pos_left i hM
 have u : A ^ i * A ^ (M * i - i) % N = 1 % N := by
  rw [<- Nat.pow_add, show i + (M * i - i) = M * i by omega]
  exact zbw A N M i h
 have v : A ^ j * A ^ (M * i - i) % N = 1 % N := by rw [<- mulm e rfl]; exact u
 have t : A ^ (j - i) * (A ^ i * A ^ (M * i - i)) % N = 1 % N := by
  rw [<- Nat.mul_assoc, <- Nat.pow_add, show j - i + i = j by omega]
  exact v
 have s := mulm (a := A ^ (j - i)) (b := A ^ (j - i)) (c := A ^ i * A ^ (M * i - i)) (d := 1) (N := N) rfl u
 rw [t, Nat.mul_one] at s
 exact s.symm
theorem least (P : Nat -> Prop) (n : Nat) (h : P n) : ∃ d, P d /\ ∀ k, k < d -> ¬ P k := by
 induction n using Nat.strongRecOn with
 | _ n ih =>
  by_cases hk : ∃ k, k < n /\ P k
  ·obtain ⟨k, h1, h2⟩ := hk
   exact ih k h1 h2
  ·exact ⟨n, h, fun k h1 h2 => hk ⟨k, h1, h2⟩⟩
theorem order_dvd (A N d k : Nat) (hd : 1 <= d) (h : A ^ d % N = 1 % N) (hl : ∀ j, j < d -> ¬ (1 <= j /\ A ^ j % N = 1 % N)) (hk : A ^ k % N = 1 % N) : d ∣ k := by
 have e : A ^ (k % d) % N = 1 % N := by
  have h1 := zbw A N d (k / d) h
  have h2 := mulm (a := A ^ (d * (k / d))) (b := 1) (c := A ^ (k % d)) (d := A ^ (k % d)) (N := N) h1 rfl
  rw [<- Nat.pow_add, Nat.div_add_mod, Nat.one_mul, hk] at h2
  exact h2.symm
 have hlt := Nat.mod_lt k hd
 by_cases h0 : k % d = 0
 ·exact Nat.dvd_of_mod_eq_zero h0
 ·exact absurd ⟨by omega, e⟩ (hl _ hlt)
theorem nodup_le {α : Type} [DecidableEq α] : ∀ (l l' : List α), l.Nodup -> (∀ x, x ∈ l -> x ∈ l') -> l.length <= l'.length
 | [], _, _, _ => Nat.zero_le _
 | a :: l, l', hn, hs => by
  have ha := hs a (List.mem_cons_self ..)
  have hn' := List.nodup_cons.1 hn
  have := nodup_le l (l'.erase a) hn'.2 fun x hx => by
   have hx' := hs x (List.mem_cons_of_mem _ hx)
   have hne : x ≠ a := fun e => hn'.1 (e ▸ hx)
   exact (List.mem_erase_of_ne hne).2 hx'
  rw [List.length_erase_of_mem ha] at this
  have hpos : 1 <= l'.length := by
   cases l' with
   | nil => simp at ha
   | cons _ _ => simp
  simp only [List.length_cons]
  omega
theorem nodup_full {α : Type} [DecidableEq α] (l l' : List α) (hn : l.Nodup) (hs : ∀ x, x ∈ l -> x ∈ l') (hl : l'.length <= l.length) : ∀ y, y ∈ l' -> y ∈ l := by
 intro y hy
 refine Classical.byContradiction fun hne => ?_
 have := nodup_le l (l'.erase y) hn fun x hx => (List.mem_erase_of_ne (show x ≠ y from fun e => hne (e ▸ hx))).2 (hs x hx)
 rw [List.length_erase_of_mem hy] at this
 have hpos : 1 <= l'.length := by
  cases l' with
  | nil => simp at hy
  | cons _ _ => simp
 omega
theorem zee (f : Nat -> Nat) (n : Nat) (h : ∀ i j, i < j -> j < n -> f i ≠ f j) : ((List.range n).map f).Nodup := by
 rw [List.nodup_iff_pairwise_ne, List.pairwise_map]
 refine List.Pairwise.imp_of_mem (R := (· < ·)) ?_ (List.pairwise_lt_range)
 intro a b _ hb hab
 exact h a b hab (List.mem_range.1 hb)
theorem row_gen (N A : Nat) (hN : 2 < N) (h1 : A ^ (N - 1) % N = 1) (hf : ∀ p, prim p -> p ∣ N - 1 -> A ^ ((N - 1) / p) % N ≠ 1) :
  ∀ a, a % N ≠ 0 -> ∃ i, i < N - 1 /\ A ^ i % N = a % N := by
 have one : 1 % N = 1 := Nat.mod_eq_of_lt (by omega)
 have h1' : A ^ (N - 1) % N = 1 % N := by rw [one, h1]
 -- the order of A is N - 1
 obtain ⟨d, ⟨hd, hdo⟩, hl⟩ := least (fun k => 1 <= k /\ A ^ k % N = 1 % N) (N - 1) ⟨by omega, h1'⟩
 have hdv := order_dvd A N d (N - 1) hd hdo hl h1'
 have hdN : d = N - 1 := by
  obtain ⟨c, hc⟩ := hdv
  by_cases hc1 : c = 1
  ·rw [hc1, Nat.mul_one] at hc; exact hc.symm
  ·have hc0 : c ≠ 0 := by rintro rfl; simp at hc; omega
   obtain ⟨p, hp, ⟨e, he⟩⟩ := prim_divides c (by omega)
   have hpN : p ∣ N - 1 := ⟨d * e, by rw [hc, he, Nat.mul_left_comm]⟩
   refine absurd ?_ (hf p hp hpN)
   have hq : (N - 1) / p = d * e := by
    rw [hc, he, Nat.mul_left_comm]
    exact Nat.mul_div_cancel_left _ (by have := hp.1; omega)
   rw [hq, zbw A N d e hdo, one]
 subst hdN
 intro a ha
 -- N - 1 unlike powers, none of them 0: all numbers
 have hnz : ∀ i, A ^ i % N ≠ 0 := by
  intro i h0
  have := mulm (a := A ^ i) (b := 0) (c := A ^ ((N - 1) * i - i)) (d := A ^ ((N - 1) * i - i)) (N := N) (by simpa using h0) rfl
  rw [<- Nat.pow_add, show i + ((N - 1) * i - i) = (N - 1) * i by have := Nat.le_mul_of_pos_left i (show 0 < N - 1 by omega); omega, zbw A N (N - 1) i h1', Nat.zero_mul, one] at this
  simp at this
 have hnd : ((List.range (N - 1)).map (fun i => A ^ i % N - 1)).Nodup := by
  refine zee _ _ fun i j hij hj he => ?_
  have hi0 := hnz i
  have hj0 := hnz j
  have e : A ^ i % N = A ^ j % N := by omega
  exact hl (j - i) (by omega) ⟨by omega, pow_diff A N (N - 1) i j (by omega) h1' (by omega) e⟩
 have hall := nodup_full _ (List.range (N - 1)) hnd (fun x hx => by
  obtain ⟨i, _, rfl⟩ := List.mem_map.1 hx
  have := Nat.mod_lt (A ^ i) (show 0 < N by omega)
  have := hnz i
  exact List.mem_range.2 (by omega)) (by simp)
 have hlt := Nat.mod_lt a (show 0 < N by omega)
 obtain ⟨i, hi, he⟩ := List.mem_map.1 (hall (a % N - 1) (List.mem_range.2 (by omega)))
 have := hnz i
 exact ⟨i, List.mem_range.1 hi, by omega⟩
theorem row_fermat (N A : Nat) (hN : 2 < N) (h1 : A ^ (N - 1) % N = 1) (hg : ∀ a, a % N ≠ 0 -> ∃ i, i < N - 1 /\ A ^ i % N = a % N) (a : Nat) (ha : a % N ≠ 0) : a ^ (N - 1) % N = 1 := by
 have one : 1 % N = 1 := Nat.mod_eq_of_lt (by omega)
 obtain ⟨i, _, e⟩ := hg a ha
 rw [Nat.pow_mod, <- e, <- Nat.pow_mod, <- Nat.pow_mul, Nat.mul_comm, zbw A N (N - 1) i (by rw [one, h1]), one]
theorem zeN (N : Nat) (hN : 2 < N) (h : ∀ a, a % N ≠ 0 -> a ^ (N - 1) % N = 1) : prim N := by
 refine ⟨by omega, fun d hd => ?_⟩
 have hle := Nat.le_of_dvd (by omega) hd
 by_cases hdN : d = N
 ·exact Or.inr hdN
 ·left
  have h0 : d ≠ 0 := by rintro rfl; simp at hd; omega
  have hm : d % N = d := Nat.mod_eq_of_lt (by omega)
  have hp := h d (by rw [hm]; exact h0)
  -- d divides d ^ (N - 1) and N, so the rest 1
  have d1 : d ∣ d ^ (N - 1) := Nat.dvd_trans (Nat.dvd_refl d) (by
   have : d ^ (N - 1) = d ^ (N - 2) * d := by rw [<- Nat.pow_succ]; congr 1; omega
   rw [this]; exact Nat.dvd_mul_left _ _)
  have d2 := (Nat.dvd_mod_iff hd).2 d1
  rw [hp] at d2
  exact Nat.dvd_one.1 d2
theorem fermat_two (a : Nat) (ha : a % 2 ≠ 0) : a ^ (2 - 1) % 2 = 1 := by
 simp; omega
def okM (m : Int) : Bool := decide (2 <= m) && decide (m <= 4611686018427387904)
def addI (a b m : Int) : Int := if okM m then (a + b) % m else 0
def subI (a b m : Int) : Int := if okM m then (a - b) % m else 0
def mulI (a b m : Int) : Int := if okM m then (a * b) % m else 0
def powI (a e m : Int) : Int := if okM m then a ^ e.toNat % m else 0
def invS (a m : Int) : Option Nat := if okM m then (List.range m.toNat).find? (fun n => (a * (n : Int)) % m == 1) else none
def invB (a m : Int) : Bool := (invS a m).isSome
def invI (a m : Int) : Int := ((invS a m).getD 0 : Nat)
theorem zaF {m : Int} (h : okM m = true) : 2 <= m /\ m <= 4611686018427387904 := by
 unfold okM at h; simpa using h
theorem zfd {m : Int} (h : 2 <= m) (h' : m <= 4611686018427387904) : okM m = true := by
 unfold okM; simp [h, h']
theorem okM_not {m : Int} (h : m < 2 ∨ 4611686018427387904 < m) : okM m = false := by
 unfold okM; simp; omega
theorem zcI {m : Int} (h : okM m = false) : m < 2 ∨ 4611686018427387904 < m := by
 unfold okM at h; simp at h; omega
theorem za4 {a b m : Int} (h : okM m = true) : addI a b m = (a + b) % m := by unfold addI; simp [h]
theorem zb7 {a b m : Int} (h : okM m = true) : subI a b m = (a - b) % m := by unfold subI; simp [h]
theorem zaw {a b m : Int} (h : okM m = true) : mulI a b m = (a * b) % m := by unfold mulI; simp [h]
theorem zbF {a e m : Int} (h : okM m = true) : powI a e m = a ^ e.toNat % m := by unfold powI; simp [h]
theorem addI_no {a b m : Int} (h : okM m = false) : addI a b m = 0 := by unfold addI; simp [h]
theorem subI_no {a b m : Int} (h : okM m = false) : subI a b m = 0 := by unfold subI; simp [h]
theorem mulI_no {a b m : Int} (h : okM m = false) : mulI a b m = 0 := by unfold mulI; simp [h]
theorem powI_no {a e m : Int} (h : okM m = false) : powI a e m = 0 := by unfold powI; simp [h]
theorem invS_no {a m : Int} (h : okM m = false) : invS a m = none := by unfold invS; simp [h]
theorem zaN (x : Int) {m : Int} (h : okM m = true) : 0 <= x % m /\ x % m < m := by
 have := zaF h
 exact ⟨Int.emod_nonneg _ (by omega), Int.emod_lt_of_pos _ (by omega)⟩
theorem zbZ (a b m : Int) : 0 <= addI a b m /\ addI a b m <= 4611686018427387903 := by
 cases h : okM m
 ·rw [addI_no h]; omega
 ·rw [za4 h]; have := zaN (a + b) h; have := zaF h; omega
theorem zec (a b m : Int) : 0 <= subI a b m /\ subI a b m <= 4611686018427387903 := by
 cases h : okM m
 ·rw [subI_no h]; omega
 ·rw [zb7 h]; have := zaN (a - b) h; have := zaF h; omega
theorem mulI_bd (a b m : Int) : 0 <= mulI a b m /\ mulI a b m <= 4611686018427387903 := by
 cases h : okM m
 ·rw [mulI_no h]; omega
 ·rw [zaw h]; have := zaN (a * b) h; have := zaF h; omega
theorem powI_bd (a b m : Int) : 0 <= powI a b m /\ powI a b m <= 4611686018427387903 := by
 cases h : okM m
 ·rw [powI_no h]; omega
 ·rw [zbF h]; have := zaN (a ^ b.toNat) h; have := zaF h; omega
theorem cong_of {a b m : Int} (k : Int) (h : a = b + m * k) : a % m = b % m := by rw [h, Int.add_mul_emod_self_left]
theorem zan {a b c d m : Int} (h : a % m = b % m) (h' : c % m = d % m) : a * c % m = b * d % m := by
 rw [Int.mul_emod, h, h', <- Int.mul_emod]
theorem zbJ {a b c d m : Int} (h : a % m = b % m) (h' : c % m = d % m) : (a + c) % m = (b + d) % m := by
 rw [Int.add_emod, h, h', <- Int.add_emod]
theorem cong_sub {a b c d m : Int} (h : a % m = b % m) (h' : c % m = d % m) : (a - c) % m = (b - d) % m := by
 rw [Int.sub_emod, h, h', <- Int.sub_emod]
theorem zaX {a b m : Int} (h : a % m = b % m) : ∀ n : Nat, a ^ n % m = b ^ n % m
 | 0 => by simp
 | n + 1 => by rw [Int.pow_succ, Int.pow_succ]; exact zan (zaX h n) h
theorem zak (a m : Int) : a % m % m = a % m := Int.emod_emod_of_dvd a (Int.dvd_refl m)
theorem add_eq (a b m : Int) : (a % m + b % m) % m = (a + b) % m := by rw [<- Int.add_emod]
theorem add_eq2 (a b m : Int) (hm : 0 < m) : (if m <= a % m + b % m then a % m + b % m - m else a % m + b % m) = (a + b) % m := by
 have h1 := Int.emod_nonneg a (show m ≠ 0 by omega)
 have h2 := Int.emod_lt_of_pos a hm
 have h3 := Int.emod_nonneg b (show m ≠ 0 by omega)
 have h4 := Int.emod_lt_of_pos b hm
 rw [<- add_eq]
 generalize a % m = x at *
 generalize b % m = y at *
 split
 ·rw [show x + y = (x + y - m) + m * 1 by omega, Int.add_mul_emod_self_left, Int.emod_eq_of_lt (by omega) (by omega)]; omega
 ·rw [Int.emod_eq_of_lt (by omega) (by omega)]
theorem sub_eq (a b m : Int) : (a % m + m - b % m) % m = (a - b) % m := by
 rw [show a % m + m - b % m = (a % m - b % m) + m * 1 by omega, Int.add_mul_emod_self_left, <- Int.sub_emod]
theorem mul_odd (s t h m e d : Int) : (s + t - m * e + (t + t - m * d) * h) % m = (s + t * (2 * h + 1)) % m := by
 refine (cong_of (e + d * h) ?_).symm
 rw [Int.sub_mul, Int.add_mul, Int.mul_add m, <- Int.mul_assoc m, Int.mul_add t, Int.mul_left_comm]
 omega
theorem mul_even (s t h m d : Int) : (s + (t + t - m * d) * h) % m = (s + t * (2 * h)) % m := by
 refine (cong_of (d * h) ?_).symm
 rw [Int.sub_mul, Int.add_mul, <- Int.mul_assoc m, Int.mul_left_comm]
 omega
theorem zeh (s : Int) (h : Nat) : s ^ (2 * h) = (s * s) ^ h := by
 rw [Int.pow_mul]; congr 1; rw [Int.pow_succ, Int.pow_succ]; simp
theorem pow_odd (p s m : Int) (h : Nat) : (p * s % m) * (s * s % m) ^ h % m = p * s ^ (2 * h + 1) % m := by
 rw [Int.pow_succ, zeh, Int.mul_comm ((s * s) ^ h), <- Int.mul_assoc]
 exact zan (zak _ _) (zaX (zak _ _) h)
theorem pow_even (p s m : Int) (h : Nat) : p * (s * s % m) ^ h % m = p * s ^ (2 * h) % m := by
 rw [zeh]
 exact zan rfl (zaX (zak _ _) h)
theorem inv_has {a m n : Int} (h : okM m = true) (h0 : 0 <= n) (h1 : n < m) (h2 : a * n % m = 1) : invB a m = true /\ invI a m = n := by
 have hm := zaF h
 obtain ⟨k, rfl⟩ := Int.eq_ofNat_of_zero_le h0
 unfold invB invI invS
 simp only [h, if_true]
 cases hf : (List.range m.toNat).find? (fun n : Nat => (a * (n : Int)) % m == 1) with
 | none =>
  have := List.find?_eq_none.1 hf k (List.mem_range.2 (by omega))
  simp [h2] at this
 | some j =>
  have hj := List.find?_some hf
  have hr := List.mem_range.1 (List.mem_of_find?_eq_some hf)
  simp at hj
  refine ⟨rfl, ?_⟩
  -- two such numbers are one
  have e1 : a * (j : Int) * (k : Int) % m = (k : Int) % m := by
   have := zan (a := a * (j : Int)) (b := 1) (c := (k : Int)) (d := (k : Int)) (m := m) (by rw [hj, Int.emod_eq_of_lt (by omega) (by omega)]) rfl
   rw [this, Int.one_mul]
  have e2 : a * (k : Int) * (j : Int) % m = (j : Int) % m := by
   have := zan (a := a * (k : Int)) (b := 1) (c := (j : Int)) (d := (j : Int)) (m := m) (by rw [h2, Int.emod_eq_of_lt (by omega) (by omega)]) rfl
   rw [this, Int.one_mul]
  rw [Int.mul_right_comm, e2, Int.emod_eq_of_lt (by omega) (by omega), Int.emod_eq_of_lt (by omega) (by omega)] at e1
  simpa using e1
theorem inv_not {a m g : Int} (h : okM m = true) (hg : 2 <= g) (h1 : g ∣ m) (h2 : g ∣ a) : invB a m = false /\ invI a m = 0 := by
 have hm := zaF h
 unfold invB invI invS
 simp only [h, if_true]
 cases hf : (List.range m.toNat).find? (fun n : Nat => (a * (n : Int)) % m == 1) with
 | none => simp
 | some j =>
  have hj := List.find?_some hf
  simp at hj
  have e := Int.mul_ediv_add_emod (a * (j : Int)) m
  rw [hj] at e
  have : g ∣ 1 := by
   have d1 : g ∣ a * (j : Int) := Int.dvd_trans h2 (Int.dvd_mul_right _ _)
   have d2 : g ∣ m * (a * (j : Int) / m) := Int.dvd_trans h1 (Int.dvd_mul_right _ _)
   have := Int.dvd_sub d1 d2
   rwa [show a * (j : Int) - m * (a * (j : Int) / m) = 1 by omega] at this
  have := Int.le_of_dvd (by omega) this
  omega
theorem zei {a m : Int} (h : okM m = false) : invB a m = false /\ invI a m = 0 := by
 unfold invB invI; rw [invS_no h]; simp
theorem inv_is {a m : Int} (hb : invB a m = true) : okM m = true /\ 0 <= invI a m /\ invI a m < m /\ a * invI a m % m = 1 := by
 have h : okM m = true := by
  cases h : okM m
  ·rw [(zei h).1] at hb; cases hb
  ·rfl
 have hm := zaF h
 refine ⟨h, ?_⟩
 unfold invB invS at hb
 unfold invI invS
 simp only [h, if_true] at hb ⊢
 cases hf : (List.range m.toNat).find? (fun n : Nat => (a * (n : Int)) % m == 1) with
 | none => rw [hf] at hb; cases hb
 | some j =>
  have hj := List.find?_some hf
  have hr := List.mem_range.1 (List.mem_of_find?_eq_some hf)
  simp at hj
  simp
  exact ⟨by omega, hj⟩
theorem inv_none {a m : Int} (hb : invB a m = false) : invI a m = 0 := by
 unfold invB at hb
 unfold invI
 cases hf : invS a m with
 | none => rfl
 | some j => rw [hf] at hb; cases hb
theorem invI_bd (a m : Int) : 0 <= invI a m /\ invI a m <= 4611686018427387903 := by
 cases hb : invB a m
 ·rw [inv_none hb]; omega
 ·have ⟨h, h1, h2, _⟩ := inv_is hb
  have := zaF h
  omega
theorem zeC {a m rest next f g : Int} (h1 : m ∣ a * f - rest) (h2 : m ∣ a * g - next) : m ∣ a * ((f - rest / next * g % m) % m) - rest % next := by
 have e1 := Int.mul_ediv_add_emod rest next
 have e2 := Int.mul_ediv_add_emod (rest / next * g) m
 have e3 := Int.mul_ediv_add_emod (f - rest / next * g % m) m
 have key : a * ((f - rest / next * g % m) % m) - rest % next
   = (a * f - rest) - (a * g - next) * (rest / next) + m * (a * (rest / next * g / m) - a * ((f - rest / next * g % m) / m)) := by
  generalize rest / next = k at *
  generalize rest % next = r at *
  generalize k * g / m = u at *
  generalize k * g % m = v at *
  generalize (f - v) / m = p at *
  generalize (f - v) % m = q at *
  have hv : v = k * g - m * u := by omega
  have hq : q = f - v - m * p := by omega
  have hr : r = rest - next * k := by omega
  subst hv
  subst hq
  subst hr
  simp only [Int.mul_sub, Int.sub_mul]
  rw [Int.mul_left_comm a m u, Int.mul_left_comm a m p, Int.mul_assoc a g k, Int.mul_comm g k]
  omega
 rw [key]
 refine Int.dvd_add (Int.dvd_sub h1 ?_) (Int.dvd_mul_right _ _)
 exact Int.dvd_trans h2 (Int.dvd_mul_right _ _)
theorem ze9 {m a rest next : Int} (h : ∀ d : Int, d ∣ rest -> d ∣ next -> d ∣ m /\ d ∣ a) : ∀ d : Int, d ∣ next -> d ∣ rest % next -> d ∣ m /\ d ∣ a := by
 intro d h1 h2
 refine h d ?_ h1
 have e := Int.mul_ediv_add_emod rest next
 rw [<- e]
 exact Int.dvd_add (Int.dvd_trans h1 (Int.dvd_mul_right _ _)) h2
theorem ze1 {a m f : Int} (h : okM m = true) (h0 : 0 <= f) (h1 : f < m) (hd : m ∣ a * f - 1) : invB a m = true /\ invI a m = f := by
 have hm := zaF h
 refine inv_has h h0 h1 ?_
 obtain ⟨k, hk⟩ := hd
 rw [show a * f = 1 + m * k by omega, Int.add_mul_emod_self_left, Int.emod_eq_of_lt (by omega) (by omega)]
theorem euclid_no {a m g : Int} (h : okM m = true) (hg : 1 <= g) (hg' : g ≠ 1) (hd : ∀ d : Int, d ∣ g -> d ∣ 0 -> d ∣ m /\ d ∣ a) : invB a m = false /\ invI a m = 0 := by
 have ⟨h1, h2⟩ := hd g (Int.dvd_refl _) (Int.dvd_zero _)
 exact inv_not h (by omega) h1 h2
theorem zdH (a m : Int) : m ∣ a * 0 - m /\ m ∣ a * 1 - a % m /\ ∀ d : Int, d ∣ m -> d ∣ a % m -> d ∣ m /\ d ∣ a := by
 refine ⟨?_, ?_, ?_⟩
 ·rw [Int.mul_zero, Int.zero_sub]; exact Int.dvd_neg.2 (Int.dvd_refl _)
 ·have e := Int.mul_ediv_add_emod a m
  rw [Int.mul_one, show a - a % m = m * (a / m) by omega]
  exact Int.dvd_mul_right _ _
 ·intro d h1 h2
  refine ⟨h1, ?_⟩
  have e := Int.mul_ediv_add_emod a m
  rw [<- e]
  exact Int.dvd_add (Int.dvd_trans h1 (Int.dvd_mul_right _ _)) h2
structure Grp (p q : Nat) : Prop where
 two : p = 2 * q + 1
 five : 5 <= q
 pp : prim p
 pq : prim q
 fer : ∀ a, a % p ≠ 0 -> a ^ (p - 1) % p = 1
def elm (p q x : Nat) : Bool := decide (1 <= x /\ x < p /\ x ^ q % p = 1)
def zbV : Nat -> Int -> Int -> Int
 | 0, _, r => r
 | k + 1, f, r => if r % f = 0 then zbV k f (r / f) else r
def zbl (f r : Int) : Int := zbV r.toNat f r
theorem quo_bd {f r : Int} (hf : 2 <= f) (hr : 1 <= r) (h : r % f = 0) : 1 <= r / f /\ r / f < r := by
 have e := Int.mul_ediv_add_emod r f
 rw [h, Int.add_zero] at e
 have h1 : 1 <= r / f := by
  refine Classical.byContradiction fun hc => ?_
  have : f * (r / f) <= f * 0 := Int.mul_le_mul_of_nonneg_left (by omega) (by omega)
  omega
 have h2 : 2 * (r / f) <= f * (r / f) := Int.mul_le_mul_of_nonneg_right hf (by omega)
 omega
theorem zc9 (f : Int) (hf : 2 <= f) : ∀ (n k k' : Nat) (r : Int), 1 <= r -> r.toNat <= n -> n <= k -> n <= k' -> zbV k f r = zbV k' f r
 | 0, _, _, r, hr, hn, _, _ => by omega
 | n + 1, 0, _, r, hr, hn, hk, _ => by omega
 | n + 1, _ + 1, 0, r, hr, hn, _, hk => by omega
 | n + 1, k + 1, k' + 1, r, hr, hn, hk, hk' => by
  unfold zbV
  split
  ·rename_i h
   have ⟨h1, h2⟩ := quo_bd hf hr h
   exact zc9 f hf n k k' _ h1 (by omega) (by omega) (by omega)
  ·rfl
theorem stripI_step {f r : Int} (hf : 2 <= f) (hr : 1 <= r) (h : r % f = 0) : zbl f r = zbl f (r / f) := by
 have ⟨h1, h2⟩ := quo_bd hf hr h
 have e : zbl f r = zbV (r.toNat - 1) f (r / f) := by
  unfold zbl
  obtain ⟨k, hk⟩ : ∃ k, r.toNat = k + 1 := ⟨r.toNat - 1, by omega⟩
  rw [hk]
  show (if r % f = 0 then zbV k f (r / f) else r) = _
  rw [if_pos h]
  rfl
 rw [e]
 exact zc9 f hf (r / f).toNat _ _ _ h1 (Nat.le_refl _) (by omega) (Nat.le_refl _)
theorem stripI_stop {f r : Int} (hr : 1 <= r) (h : r % f ≠ 0) : zbl f r = r := by
 unfold zbl
 obtain ⟨k, hk⟩ : ∃ k, r.toNat = k + 1 := ⟨r.toNat - 1, by omega⟩
 rw [hk]
 show (if r % f = 0 then zbV k f (r / f) else r) = _
 rw [if_neg h]
theorem stripN_bd (f : Int) (hf : 2 <= f) : ∀ (k : Nat) (r : Int), 1 <= r -> 1 <= zbV k f r /\ zbV k f r <= r
 | 0, r, hr => ⟨hr, Int.le_refl _⟩
 | k + 1, r, hr => by
  unfold zbV
  split
  ·rename_i h
   have ⟨h1, h2⟩ := quo_bd hf hr h
   have ⟨h3, h4⟩ := stripN_bd f hf k _ h1
   exact ⟨h3, by omega⟩
  ·exact ⟨hr, Int.le_refl _⟩
theorem stripI_bd {f r : Int} (hf : 2 <= f) (hr : 1 <= r) : 1 <= zbl f r /\ zbl f r <= r := stripN_bd f hf _ r hr
def zaS (F : NI) : Nat -> Nat -> Int -> Bool
 | 0, _, r => r == 1
 | k + 1, i, r => (r % F i == 0) && zaS F k (i + 1) (zbl (F i) r)
def zby (N : NI) (k : Nat) (n : Int) : Bool := n == 2 || (List.range k).any fun i => N i == n
def zcK (F : NI) (L : Nat) (N : NI) (k : Nat) : Bool :=
 decide (1 <= L) && decide (L <= 16) && (List.range L).all fun j => (j == 0 || decide (F (j - 1) < F j)) && zby N k (F j)
def zdL (n A : Int) (F : NI) (L : Nat) : Bool := powI A (n - 1) n == 1 && (List.range L).all fun j => !(powI A ((n - 1) / F j) n == 1)
def rowB (n A : Int) (F : NI) (L : Nat) (N : NI) (k : Nat) : Bool :=
 decide (3 <= n) && decide (n <= 4611686018427387904) && zcK F L N k && zaS F L 0 (n - 1) && zdL n A F L
def zcG (N A : NI) (F : NN) (L : Nat -> Nat) (n : Nat) : Bool := decide (n <= 64) && (List.range n).all fun i => rowB (N i) (A i) (F i) (L i) N i
def za7 (N A : NI) (F : NN) (L : Nat -> Nat) (n : Nat) (x : Int) : Bool := zcG N A F L n && zby N n x
theorem zbY {N : NI} {k : Nat} {n : Int} : zby N k n = true ↔ n = 2 ∨ ∃ i, i < k /\ N i = n := by
 unfold zby
 simp [List.any_eq_true]
theorem zbq {F : NI} {L : Nat} {N : NI} {k : Nat} : zcK F L N k = true ↔ (1 <= L /\ L <= 16) /\ ∀ j, j < L -> (j = 0 ∨ F (j - 1) < F j) /\ zby N k (F j) = true := by
 unfold zcK
 simp [List.all_eq_true]
theorem zeX {n A : Int} {F : NI} {L : Nat} : zdL n A F L = true ↔ powI A (n - 1) n = 1 /\ ∀ j, j < L -> powI A ((n - 1) / F j) n ≠ 1 := by
 unfold zdL
 simp [List.all_eq_true]
theorem za9 {n A : Int} {F : NI} {L : Nat} {N : NI} {k : Nat} : rowB n A F L N k = true ↔ 3 <= n /\ n <= 4611686018427387904 /\ zcK F L N k = true /\ zaS F L 0 (n - 1) = true /\ zdL n A F L = true := by
 unfold rowB
 simp [and_assoc]
theorem zcv {N A : NI} {F : NN} {L : Nat -> Nat} {n : Nat} : zcG N A F L n = true ↔ n <= 64 /\ ∀ i, i < n -> rowB (N i) (A i) (F i) (L i) N i = true := by
 unfold zcG
 simp [List.all_eq_true]
theorem provedB_iff {N A : NI} {F : NN} {L : Nat -> Nat} {n : Nat} {x : Int} : za7 N A F L n x = true ↔ zcG N A F L n = true /\ zby N n x = true := by
 unfold za7
 simp
theorem no_of {b : Bool} (h : b = true -> False) : b = false := by cases b with
 | false => rfl
 | true => exact (h rfl).elim
theorem stand_two {F : NI} {L : Nat} {N : NI} {k : Nat} (h : zcK F L N k = true) (hN : ∀ i, i < k -> 3 <= N i) : ∀ j, j < L -> 2 <= F j := by
 intro j hj
 rcases zbY.1 ((zbq.1 h).2 j hj).2 with h | ⟨i, hi, h⟩
 ·omega
 ·have := hN i hi
  omega
theorem zeI {N A : NI} {F : NN} {L : Nat -> Nat} {n : Nat} (h : ∀ i, i < n -> rowB (N i) (A i) (F i) (L i) N i = true) : ∀ i, i < n -> 3 <= N i := fun i hi => (za9.1 (h i hi)).1
theorem zeW (p q : Nat) (hp : prim p) (hq : prim q) (hne : p ≠ q) : ∀ (k : Nat) (r : Int), 1 <= r -> (p : Int) ∣ r -> (p : Int) ∣ zbV k q r
 | 0, _, _, h => h
 | k + 1, r, hr, h => by
  unfold zbV
  split
  ·rename_i h0
   have h2 : (2 : Int) <= (q : Int) := by have := hq.1; omega
   have ⟨h1, _⟩ := quo_bd h2 hr h0
   refine zeW p q hp hq hne k _ h1 ?_
   have e := Int.mul_ediv_add_emod r q
   rw [h0, Int.add_zero] at e
   rw [<- e] at h
   obtain ⟨s, hs⟩ := Int.eq_ofNat_of_zero_le (show 0 <= r / (q : Int) by omega)
   rw [hs] at h ⊢
   have h' : p ∣ q * s := by exact_mod_cast h
   exact_mod_cast prim_strip p q s hp hq hne h'
  ·exact h
theorem parts_has (F : NI) (p : Nat) (hp : prim p) : ∀ (k i : Nat) (r : Int), 1 <= r -> (∀ j, i <= j -> j < i + k -> ∃ q : Nat, prim q /\ F j = (q : Int)) -> zaS F k i r = true -> (p : Int) ∣ r -> ∃ j, i <= j /\ j < i + k /\ F j = (p : Int)
 | 0, i, r, hr, _, h, hd => by
  simp [zaS] at h
  subst h
  have := Int.le_of_dvd (by omega) hd
  have := hp.1
  omega
 | k + 1, i, r, hr, hF, h, hd => by
  obtain ⟨q, hq, e⟩ := hF i (Nat.le_refl _) (by omega)
  by_cases hne : p = q
  ·exact ⟨i, Nat.le_refl _, by omega, by rw [e, hne]⟩
  ·unfold zaS at h
   rw [e] at h
   simp only [Bool.and_eq_true] at h
   have h2 : (2 : Int) <= (q : Int) := by have := hq.1; omega
   have hs := zeW p q hp hq hne r.toNat r hr hd
   have hb := stripI_bd h2 hr
   obtain ⟨j, h3, h4, h5⟩ := parts_has F p hp k (i + 1) (zbl q r) hb.1 (fun j h3 h4 => hF j (by omega) (by omega)) h.2 hs
   exact ⟨j, by omega, by omega, h5⟩
theorem powI_nat (b e q : Nat) (h : okM (q : Int) = true) : powI (b : Int) (e : Int) (q : Int) = ((b ^ e % q : Nat) : Int) := by
 rw [zbF h, Int.toNat_natCast, Int.natCast_emod, Int.natCast_pow]
theorem holds_prim {N A : NI} {F : NN} {L : Nat -> Nat} {n : Nat} (hA : ∀ i, i < n -> 0 <= A i) (h : ∀ i, i < n -> rowB (N i) (A i) (F i) (L i) N i = true) :
  ∀ i, i < n -> ∃ q : Nat, N i = (q : Int) /\ prim q /\ 2 < q /\ ∀ a : Nat, a % q ≠ 0 -> a ^ (q - 1) % q = 1 := by
 intro i
 induction i using Nat.strongRecOn with
 | _ i ih =>
  intro hi
  obtain ⟨h1, h2, h3, h4, h5⟩ := za9.1 (h i hi)
  obtain ⟨o1, o2⟩ := zeX.1 h5
  have hF : ∀ j, j < L i -> ∃ q : Nat, prim q /\ F i j = (q : Int) := by
   intro j hj
   rcases zbY.1 ((zbq.1 h3).2 j hj).2 with e | ⟨k, hk, e⟩
   ·exact ⟨2, prim_two, e⟩
   ·obtain ⟨q, e1, e2, _⟩ := ih k hk (by omega)
    exact ⟨q, e2, by rw [<- e, e1]⟩
  obtain ⟨q, hq⟩ := Int.eq_ofNat_of_zero_le (show 0 <= N i by omega)
  obtain ⟨b, hb⟩ := Int.eq_ofNat_of_zero_le (hA i hi)
  rw [hq] at h1 h2 h4 o1 o2 ⊢
  rw [hb] at o1 o2
  have hok : okM (q : Int) = true := zfd (by omega) h2
  have hq2 : 2 < q := by omega
  have e1 : ((q : Int) - 1) = ((q - 1 : Nat) : Int) := by omega
  rw [e1] at h4 o1 o2
  rw [powI_nat b _ q hok] at o1
  have g1 : b ^ (q - 1) % q = 1 := by exact_mod_cast o1
  have gen := row_gen q b hq2 g1 fun p hp hd => by
   obtain ⟨j, _, hj, hF'⟩ := parts_has (F i) p hp (L i) 0 ((q - 1 : Nat) : Int) (by omega) (fun j _ hj => hF j (by omega)) h4 (by exact_mod_cast hd)
   have := o2 j (by omega)
   rw [hF', <- Int.natCast_ediv, powI_nat b _ q hok] at this
   exact fun hc => this (by exact_mod_cast hc)
  have fer := row_fermat q b hq2 g1 gen
  exact ⟨q, rfl, zeN q hq2 fer, hq2, fer⟩
theorem zew {N A : NI} {F : NN} {L : Nat -> Nat} {n : Nat} {x : Int} (hA : ∀ i, i < n -> 0 <= A i) (h : za7 N A F L n x = true) :
  okM x = true /\ ∃ q : Nat, x = (q : Int) /\ prim q /\ ∀ a : Nat, a % q ≠ 0 -> a ^ (q - 1) % q = 1 := by
 obtain ⟨h1, h2⟩ := provedB_iff.1 h
 obtain ⟨h3, h4⟩ := zcv.1 h1
 rcases zbY.1 h2 with rfl | ⟨i, hi, rfl⟩
 ·exact ⟨by decide +kernel, 2, rfl, prim_two, fermat_two⟩
 ·obtain ⟨q, e1, e2, e3, e4⟩ := holds_prim hA h4 i hi
  have := za9.1 (h4 i hi)
  exact ⟨zfd (by omega) this.2.1, q, e1, e2, e4⟩
end
section
open Go.RowKit
def FacsIn (w : World) (a : OA) (len : Nat) (F : NI) : Prop :=
 len = 0 ∨ ∃ b off, a = some ⟨b, off, none⟩ /\ b < w.heap.size /\ ∀ j, j < len -> w.cell? ⟨b, off + j, none⟩ = some (.int .u64 (F j)) /\ 0 <= F j /\ F j <= 18446744073709551615
structure RowAt (w : World) (b off : Nat) (n A : Int) (FA : OA) (L C : Nat) (F : NI) : Prop where
 c0 : w.cell? ⟨b, off, none⟩ = some (.int .u64 n)
 c1 : w.cell? ⟨b, off + 1, none⟩ = some (.int .u64 A)
 c2 : w.cell? ⟨b, off + 2, none⟩ = some (.slice FA L C)
 n0 : 0 <= n
 n1 : n <= 18446744073709551615
 a0 : 0 <= A
 a1 : A <= 18446744073709551615
 l0 : L <= C
 l1 : C <= maxLen
 facs : FacsIn w FA L F
def RowsIn (w : World) (a : OA) (n : Nat) (N A : NI) (FA : Nat -> Option Addr) (L C : Nat -> Nat) (F : NN) : Prop :=
 n = 0 ∨ ∃ b off, a = some ⟨b, off, none⟩ /\ b < w.heap.size /\ ∀ i, i < n -> RowAt w b (off + i * 3) (N i) (A i) (FA i) (L i) (C i) (F i)
theorem FacsIn.below {w w' : World} {a : OA} {len : Nat} {F : NI} (h : FacsIn w a len F) (hb : Below w.heap.size w w') : FacsIn w' a len F := by
 rcases h with h | ⟨b, off, ha, hl, hc⟩
 ·exact Or.inl h
 ·exact Or.inr ⟨b, off, ha, Nat.lt_of_lt_of_le hl hb.size, fun j hj => ⟨(hb.cell hl).trans (hc j hj).1, (hc j hj).2⟩⟩
theorem RowAt.below {w w' : World} {b off : Nat} {n A : Int} {FA : OA} {L C : Nat} {F : NI} (h : RowAt w b off n A FA L C F) (hl : b < w.heap.size) (hb : Below w.heap.size w w') : RowAt w' b off n A FA L C F where
 c0 := (hb.cell hl).trans h.c0
 c1 := (hb.cell hl).trans h.c1
 c2 := (hb.cell hl).trans h.c2
 n0 := h.n0
 n1 := h.n1
 a0 := h.a0
 a1 := h.a1
 l0 := h.l0
 l1 := h.l1
 facs := h.facs.below hb
theorem RowsIn.below {w w' : World} {a : OA} {n : Nat} {N A : NI} {FA : Nat -> Option Addr} {L C : Nat -> Nat} {F : NN} (h : RowsIn w a n N A FA L C F) (hb : Below w.heap.size w w') : RowsIn w' a n N A FA L C F := by
 rcases h with h | ⟨b, off, ha, hl, hc⟩
 ·exact Or.inl h
 ·exact Or.inr ⟨b, off, ha, Nat.lt_of_lt_of_le hl hb.size, fun i hi => (hc i hi).below hl hb⟩
theorem RowsIn.a0 {w : World} {a : OA} {n : Nat} {N A : NI} {FA : Nat -> Option Addr} {L C : Nat -> Nat} {F : NN} (h : RowsIn w a n N A FA L C F) : ∀ i, i < n -> 0 <= A i := by
 intro i hi
 rcases h with h | ⟨b, off, ha, hl, hc⟩
 ·omega
 ·exact (hc i hi).a0
theorem zad {a b : Bool} (h : a = b) : Ending.returned (.bool a) = .returned (.bool b) := by rw [h]
theorem zci {w w' : World} (h : Below w.heap.size w w') (o : Obj) : Below w.heap.size w (w'.alloc o) := h.alloc h.size o
theorem zav {P : Nat -> Prop} {i : Nat} (h : ∀ j, j < i -> P j) (hi : P i) : ∀ j, j < i + 1 -> P j := by
 intro j hj
 by_cases he : j = i
 ·rw [he]; exact hi
 ·exact h j (by omega)
theorem zab (i : Nat) : Value.int .i64 ((i : Int) + 1) = .int .i64 ((i + 1 : Nat) : Int) := by
 rw [Int.natCast_add]
 rfl
theorem zeZ {w w1 w2 : World} (h1 : Below w.heap.size w w1) (h2 : Below w1.heap.size w1 w2) : Below w.heap.size w w2 := h1.trans (h2.mono h1.size)
end
end Go.Proofs.YtlnmjbbpenhdbaaGreat
