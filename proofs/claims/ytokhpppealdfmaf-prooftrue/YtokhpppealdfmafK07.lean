/-
  The contract of the document's Number (layer 3).
  The contracts of the document's leaves and above (layer 3).
  Numbers: primes, powers modulo a number, and what a certificate's row proves.
  The squares modulo a prime that is twice a prime and one: which numbers they are, how many, and the powers of one of them.
  Certificates of primes as plain functions of whole numbers, and that what a certificate proves is a prime.
  How a list of rows lies in memory, and that it lies there still behind whatever leaves old memory alone.
  The contract of prime.isNamed at this seat.
-/
import Derived.Test.YtokhpppealdfmafK06
import Derived.Deep.AppendLies
import Derived.WalkKit
import Derived.Below
import Derived.Deep.QuietTactic
import Derived.BigQuiet
import Derived.WalkSmall
import Derived.Test.YtokhpppealdfmafProg
namespace Go.Proofs.Ytokhpppealdfmaf
open Go.RowKit

/-- Texts that lie one behind the other. -/
def StrsIn (w : World) (a : Option Addr) (n : Nat) (S : Nat → List Int) : Prop :=
  n = 0 ∨ ∃ b off, a = some ⟨b, off, none⟩ ∧ b < w.heap.size ∧ ∀ i, i < n → w.cell? ⟨b, off + i, none⟩ = some (.string (strOfNums (S i))) ∧ Bts (S i)
theorem StrsIn.old {w w' : World} {a : Option Addr} {n : Nat} {S : Nat → List Int} (h : StrsIn w a n S) (ho : Old w w') : StrsIn w' a n S := by
  rcases h with h | ⟨b, off, ha, hb, hc⟩
  · exact Or.inl h
  · exact Or.inr ⟨b, off, ha, Nat.lt_of_lt_of_le hb ho.size, fun i hi => ⟨ho.cellOf (hc i hi).1, (hc i hi).2⟩⟩
theorem StrsIn.bts {w : World} {a : Option Addr} {n : Nat} {S : Nat → List Int} (h : StrsIn w a n S) {i : Nat} (hi : i < n) : Bts (S i) := by
  rcases h with h | ⟨b, off, ha, hb, hc⟩
  · omega
  · exact (hc i hi).2

/-- A label and the first i parts, with their lengths. -/
def numL (label : List Int) (S : Nat → List Int) : Nat → List Int
  | 0 => bytesL label.length 8 ++ label
  | i + 1 => numL label S i ++ (bytesL (S i).length 8 ++ S i)
/-- The first i bytes as a number modulo q. -/
def numF (h : Nat → Int) (q : Int) : Nat → Int
  | 0 => 0
  | i + 1 => addI (mulI (numF h q i) 256 q) (h i) q
def numberI (label : List Int) (S : Nat → List Int) (n : Nat) (q : Int) : Int := if okM q then numF (fun i => (sumL (numL label S n)).getD i 0) q 16 else 0

theorem numF_bd (h : Nat → Int) (q : Int) (i : Nat) : 0 ≤ numF h q i ∧ numF h q i ≤ 4611686018427387903 := by
  cases i with
  | zero =>
    show (0 : Int) ≤ 0 ∧ (0 : Int) ≤ 4611686018427387903
    omega
  | succ i => exact addI_bd _ _ _
theorem numL_succ_len (label : List Int) (S : Nat → List Int) (i : Nat) : (numL label S (i + 1)).length = (numL label S i).length + 8 + (S i).length := by
  show (numL label S i ++ (bytesL (S i).length 8 ++ S i)).length = _
  rw [List.length_append, List.length_append, bytesL_len]
  omega
theorem numL_mono (label : List Int) (S : Nat → List Int) {i : Nat} : ∀ n, i ≤ n → (numL label S i).length ≤ (numL label S n).length
  | 0, h => by
    obtain rfl : i = 0 := by omega
    exact Nat.le_refl _
  | n + 1, h => by
    by_cases he : i = n + 1
    · rw [he]; exact Nat.le_refl _
    · have := numL_mono label S (i := i) n (by omega)
      rw [numL_succ_len]
      omega
theorem numL_bd {label : List Int} {S : Nat → List Int} (hl : Bts label) : ∀ n, (∀ i, i < n → Bts (S i)) → Bts (numL label S n)
  | 0, _ => bts_app (bytesL_bd _ _) hl
  | n + 1, h => bts_app (numL_bd hl n fun i hi => h i (by omega)) (bts_app (bytesL_bd _ _) (h n (by omega)))

set_option maxHeartbeats 2000000 in
theorem number_any (label : List Int) (a : Option Addr) (n cap : Nat) (S : Nat → List Int) (q : Int) (w : World) (hl : Bts label) (hin : StrsIn w a n S) (hn : n ≤ 1000) (hlen : (numL label S n).length ≤ 1000000) (q0 : 0 ≤ q) (q1 : q ≤ 18446744073709551615) :
    Calls Try.prog 81 #[.string (strOfNums label), .slice a n cap, .int .u64 q] w fun e w' => e = .returned (.int .u64 (numberI label S n q)) ∧ Old w w' := by
  have HB : Hid (Bts label ∧ StrsIn w a n S) := ⟨hl, hin⟩
  clear hl hin
  by_cases h1 : q < 2
  · have HE : Hid (numberI label S n q = 0) := by unfold Hid numberI; rw [okM_not (Or.inl h1)]; rfl
    go_enter Try.func81, Try.ntmps81
    go_wp2_with fail
    go_ret
    exact ⟨ret_u64 HE.out.symm, Old.refl _⟩
  by_cases h2 : 4611686018427387904 < q
  · have HE : Hid (numberI label S n q = 0) := by unfold Hid numberI; rw [okM_not (Or.inr h2)]; rfl
    go_enter Try.func81, Try.ntmps81
    go_wp2_with fail
    go_ret
    exact ⟨ret_u64 HE.out.symm, Old.refl _⟩
  have HE : Hid (numberI label S n q = numF (fun i => (sumL (numL label S n)).getD i 0) q 16) := by unfold Hid numberI; rw [okM_of (by omega) (by omega)]; rfl
  have hadd : ∀ xs ys : List Int, strOfNums xs ++ strOfNums ys = strOfNums (xs ++ ys) := str_add
  have hsz : ∀ xs : List Int, (strOfNums xs).size = xs.length := strOfNums_size
  have ll : (numL label S 0).length ≤ 1000000 := Nat.le_trans (numL_mono label S n (Nat.zero_le _)) hlen
  have ll' : (numL label S 0).length = 8 + label.length := by show (bytesL label.length 8 ++ label).length = _; rw [List.length_append, bytesL_len]
  rw [ll'] at ll
  clear ll'
  have z8 := bytesL_len (label.length : Int) 8
  go_enter Try.func81, Try.ntmps81
  go_wp2_with (go_at_call 92; refine (bytes_any _ 8 _ (by omega) (by omega) (by omega) (by omega)).mono ?_; rintro e w1 ⟨rfl, hb1⟩)
  go_loopw [7, 8] (fun sv iv wx => ∃ i : Nat, iv = .int .i64 (i : Int) ∧ i ≤ n ∧ sv = .string (strOfNums (numL label S i)) ∧ Old w wx) (fun _ iv _ => n - (intOf iv).toNat)
  case atStart => exact ⟨0, rfl, Nat.zero_le _, rfl, Old.ofBelow hb1⟩
  case round =>
    obtain ⟨i, rfl, hi, rfl, hold⟩ := hrel
    have HO : Hid (Old w wr) := hold
    clear hold
    by_cases hlt : i < n
    · have hm := numL_mono label S n (show i + 1 ≤ n by omega)
      rw [numL_succ_len] at hm
      rcases HB.out.2.old HO.out with h0 | ⟨b, off, rfl, hb, hr⟩
      · omega
      have cp := (hr i hlt).1
      clear hr
      have zi := bytesL_len ((S i).length : Int) 8
      have ii : (i : Int) < (n : Int) := by omega
      have i0 : (0 : Int) ≤ (i : Int) := by omega
      have lb1 : (numL label S i).length + 8 ≤ 9223372036854775807 := by omega
      have lb2 : (numL label S i).length + 8 + (S i).length ≤ 9223372036854775807 := by omega
      have lb3 : ¬ 9223372036854775807 < (numL label S i).length + 8 := by omega
      have lb4 : ¬ 9223372036854775807 < (numL label S i).length + 8 + (S i).length := by omega
      have lb5 : (numL label S i).length ≤ 9223372036854775799 := by omega
      have lb6 : ¬ 9223372036854775799 < (numL label S i).length := by omega
      have hw : IntKind.u64.wrap ((S i).length : Int) = ((S i).length : Int) := by rw [IntKind.wrap_u64]; omega
      have n0 : (0 : Int) ≤ ((S i).length : Int) := by omega
      have n1 : ((S i).length : Int) ≤ 18446744073709551615 := by omega
      go_wp2_with fail
      go_region_held3 (fun w' => w'.cell? ⟨b, off + i, none⟩ = some (.string (strOfNums (S i)))) (first | go_keep | exact (Old.ofBelow (by assumption)).cellOf (by assumption)) (first | (go_at_call 92; refine (bytes_any _ 8 _ n0 n1 (by decide) (by decide)).mono ?_; rintro e w2 ⟨rfl, hb2⟩))
      go_wp2_with fail
      go_roundw
      case rel => exact ⟨i + 1, idx_up i, by omega, rfl, HO.out.trans ((Old.refl _).drew.trans (Old.ofBelow hb2))⟩
      case measure => simp [intOf]; omega
    · have he : i = n := by omega
      subst he
      go_wp2_with (go_at_call 93; refine (sum_list _ _ (numL_bd HB.out.1 _ fun j hj => HB.out.2.bts hj) (by omega)).mono ?_; rintro e w2 ⟨rfl, ho2⟩)
      have HT : Hid (Old w w2) := HO.out.trans ho2
      clear ho2
      have HG : Hid (Bts (sumL (numL label S i)) ∧ (sumL (numL label S i)).length = 32) := ⟨sumL_bd _, sumL_len _⟩
      generalize sumL (numL label S i) = h at *
      have zh := HG.out.2
      go_loopw [10, 11] (fun nv iv wx => ∃ j : Nat, iv = .int .i64 (j : Int) ∧ j ≤ 16 ∧ nv = .int .u64 (numF (fun i => h.getD i 0) q j) ∧ Old w wx) (fun _ iv _ => 16 - (intOf iv).toNat)
      case atStart => exact ⟨0, rfl, Nat.zero_le _, rfl, HT.out⟩
      case round =>
        obtain ⟨j, rfl, hj, rfl, hold⟩ := hrel
        have HO2 : Hid (Old w wr) := hold
        clear hold
        by_cases hj16 : j < 16
        · have hix := str_index HG.out.1 (i := j) (by rw [strOfNums_size, zh]; omega)
          obtain ⟨e0, e1⟩ := getD_bd HG.out.1 j
          obtain ⟨g0, g1⟩ := numF_bd (fun i => h.getD i 0) q j
          obtain ⟨m0, m1⟩ := mulI_bd (numF (fun i => h.getD i 0) q j) 256 q
          have HF : Hid (numF (fun i => h.getD i 0) q (j + 1) = addI (mulI (numF (fun i => h.getD i 0) q j) 256 q) (h.getD j 0) q) := rfl
          generalize numF (fun i => h.getD i 0) q j = x at *
          have jj : (j : Int) < 32 := by omega
          have j0 : (0 : Int) ≤ (j : Int) := by omega
          generalize h.getD j 0 = y at hix e0 e1 HF
          have hw : IntKind.u64.wrap y = y := by rw [IntKind.wrap_u64]; omega
          go_wp2_with fail
          go_quiet (first
            | (go_at_call 71; exact Calls.quiet_of (rmul_any _ _ _ _ g0 (by omega) (by omega) (by omega)))
            | (go_at_call 19; exact Calls.quiet_of (radd_any _ _ _ _ m0 (by omega) (by omega) (by omega))))
          go_wp2_with fail
          go_roundw
          case rel => exact ⟨j + 1, idx_up j, by omega, by rw [HF.out], HO2.out.drewN _⟩
          case measure => simp [intOf]; omega
        · have he : j = 16 := by omega
          subst he
          go_wp2_with fail
          go_ret
          exact ⟨ret_u64 HE.out.symm, HO2.out⟩

end Go.Proofs.Ytokhpppealdfmaf

namespace Go.Proofs.Ytokhpppealdfmaf
open Go.RowKit

theorem strinfo : (Try.prog.info? 9).map (fun i => (i.zero, i.size, i.bytes)) = some (some (.string ⟨#[]⟩), 1, 16) := by kernel_rfl

/-- The cells of n texts. -/
def cellsS (S : Nat → List Int) (n : Nat) : List Value := (List.range n).map fun i => .string (strOfNums (S i))
theorem cellsS_succ (S : Nat → List Int) (n : Nat) : cellsS S (n + 1) = cellsS S n ++ [.string (strOfNums (S n))] := by simp [cellsS, List.range_succ]
theorem cellsS_len (S : Nat → List Int) (n : Nat) : (cellsS S n).length = n := by simp [cellsS]

/-- What is owned stays owned behind whatever leaves old memory alone. -/
theorem own_old {w w' : World} {base : Nat} {e : TypeId} {size : Nat} {v : Value} {n : Nat} {xs : List Value} (h : w.ownsRow base e size v n xs) (ho : Old w w') : w'.ownsRow base e size v n xs := by
  refine ⟨h.1, ?_⟩
  rcases h.2 with h2 | ⟨g, cap, cur, hv, hg, hh, r⟩
  · exact Or.inl h2
  · refine Or.inr ⟨g, cap, cur, hv, hg, ?_, r⟩
    rw [ho.block g ?_]
    · exact hh
    · refine Classical.byContradiction fun hc => ?_
      have : w.heap[g]? = none := by simp; omega
      rw [this] at hh
      cases hh
theorem own_strs {w : World} {base : Nat} {e : TypeId} {v : Value} {n : Nat} {S : Nat → List Int} (h : w.ownsRow base e 1 v n (cellsS S n)) (hb : ∀ i, i < n → Bts (S i)) : ∃ a cap, v = .slice a n cap ∧ n ≤ cap ∧ StrsIn w a n S := by
  by_cases hn : n = 0
  · subst hn
    rcases h.2 with ⟨rfl, _⟩ | ⟨g, cap, cur, rfl, _, _, hc, _⟩
    · exact ⟨none, 0, rfl, Nat.le_refl _, Or.inl rfl⟩
    · exact ⟨_, cap, rfl, hc, Or.inl rfl⟩
  · obtain ⟨g, cap, rfl, _, hlt, hc, hcell⟩ := own_cells h (by omega)
    refine ⟨_, cap, rfl, hc, Or.inr ⟨g, 0, rfl, hlt, fun i hi => ⟨?_, hb i hi⟩⟩⟩
    rw [Nat.zero_add, hcell i hi]
    simp [cellsS, hi]
/-- One more element behind old memory. -/
theorem old_app {W w w' : World} {e : TypeId} {size : Nat} {v : Value} {n : Nat} {xs : List Value} {o : Obj} (hb : Old W w) (ho : w.ownsRow W.heap.size e size v n xs) (hg : (w.alloc o).grownBy w' v.ownBlock) : Old W w' := by
  have h1 := hb.alloc o
  refine ⟨hg.os.trans h1.os, hg.output.trans h1.output, Nat.le_trans h1.size hg.size, fun k hk => (hg.block k (Nat.lt_of_lt_of_le hk h1.size) fun he => ?_).trans (h1.block k hk)⟩
  have := own_from ho k he.symm
  omega

def leafF (S : Nat → List Int) : Nat → List Int := fun i => sumL (0 :: S i)
def aboveF (S : Nat → List Int) (m : Nat) : Nat → List Int := fun j => if 2 * j + 1 < m then sumL (1 :: (S (2 * j) ++ S (2 * j + 1))) else S (2 * j)

theorem bts_cons {x : Int} {xs : List Int} (h : 0 ≤ x ∧ x ≤ 255) (hx : Bts xs) : Bts (x :: xs) := by
  intro y hy
  rcases List.mem_cons.1 hy with rfl | hy
  · exact h
  · exact hx y hy

theorem aboveF_two {S : Nat → List Int} {m j : Nat} (h : 2 * j + 1 < m) : aboveF S m j = sumL (1 :: (S (2 * j) ++ S (2 * j + 1))) := by
  unfold aboveF
  rw [if_pos h]
theorem aboveF_one {S : Nat → List Int} {m j : Nat} (h : ¬ 2 * j + 1 < m) : aboveF S m j = S (2 * j) := by
  unfold aboveF
  rw [if_neg h]

end Go.Proofs.Ytokhpppealdfmaf

namespace Go.Proofs.Ytokhpppealdfmaf

/-- No divisor but 1 and itself. -/
def prim (n : Nat) : Prop := 2 ≤ n ∧ ∀ d, d ∣ n → d = 1 ∨ d = n

theorem prim_two : prim 2 := by
  refine ⟨Nat.le_refl _, fun d h => ?_⟩
  have := Nat.le_of_dvd (by omega) h
  have : d ≠ 0 := by rintro rfl; simp at h
  omega

theorem prim_divides : ∀ n : Nat, 2 ≤ n → ∃ p, prim p ∧ p ∣ n := by
  intro n
  induction n using Nat.strongRecOn with
  | _ n ih =>
    intro h
    by_cases hp : prim n
    · exact ⟨n, hp, Nat.dvd_refl _⟩
    · have : ∃ d, d ∣ n ∧ d ≠ 1 ∧ d ≠ n := by
        refine Classical.byContradiction fun hc => hp ⟨h, fun d hd => ?_⟩
        refine Classical.byContradiction fun hne => hc ⟨d, hd, ?_, ?_⟩
        · exact fun e => hne (Or.inl e)
        · exact fun e => hne (Or.inr e)
      obtain ⟨d, hd, h1, h2⟩ := this
      have hle := Nat.le_of_dvd (by omega) hd
      have h0 : d ≠ 0 := by rintro rfl; simp at hd; omega
      obtain ⟨p, hp, hpd⟩ := ih d (by omega) (by omega)
      exact ⟨p, hp, Nat.dvd_trans hpd hd⟩

/-- A prime that divides a product of a prime f and r, and is not f, divides r. -/
theorem prim_strip (p f r : Nat) (hp : prim p) (hf : prim f) (hne : p ≠ f) (h : p ∣ f * r) : p ∣ r := by
  refine Nat.Coprime.dvd_of_dvd_mul_left ?_ h
  rcases hf.2 _ (Nat.gcd_dvd_right p f) with hg | hg
  · exact hg
  · have := Nat.gcd_dvd_left p f
    rw [hg] at this
    rcases hp.2 _ this with h1 | h1
    · have := hf.1; omega
    · exact absurd h1.symm hne

theorem prim_or (p a b : Nat) (hp : prim p) (h : p ∣ a * b) : p ∣ a ∨ p ∣ b := by
  by_cases ha : p ∣ a
  · exact Or.inl ha
  · refine Or.inr (Nat.Coprime.dvd_of_dvd_mul_left ?_ h)
    rcases hp.2 _ (Nat.gcd_dvd_left p a) with hg | hg
    · exact hg
    · exact absurd (hg ▸ Nat.gcd_dvd_right p a) ha

/-! ### powers -/
theorem pow_mod_one (A N k : Nat) (h : A % N = 1 % N) : A ^ k % N = 1 % N := by
  rw [Nat.pow_mod, h, ← Nat.pow_mod, Nat.one_pow]

theorem mulm {a b c d N : Nat} (h : a % N = b % N) (h' : c % N = d % N) : a * c % N = b * d % N := by
  rw [Nat.mul_mod, h, h', ← Nat.mul_mod]

theorem pow_mul_one (A N d k : Nat) (h : A ^ d % N = 1 % N) : A ^ (d * k) % N = 1 % N := by
  rw [Nat.pow_mul]
  exact pow_mod_one _ _ _ h

/-- Where two powers are alike, the power of the difference is 1. -/
theorem pow_diff (A N M i j : Nat) (hM : 1 ≤ M) (h : A ^ M % N = 1 % N) (hij : i ≤ j) (e : A ^ i % N = A ^ j % N) : A ^ (j - i) % N = 1 % N := by
  have hle : i ≤ M * i := Nat.le_mul_of_pos_left i hM
  have u : A ^ i * A ^ (M * i - i) % N = 1 % N := by
    rw [← Nat.pow_add, show i + (M * i - i) = M * i by omega]
    exact pow_mul_one A N M i h
  have v : A ^ j * A ^ (M * i - i) % N = 1 % N := by rw [← mulm e rfl]; exact u
  have t : A ^ (j - i) * (A ^ i * A ^ (M * i - i)) % N = 1 % N := by
    rw [← Nat.mul_assoc, ← Nat.pow_add, show j - i + i = j by omega]
    exact v
  have s := mulm (a := A ^ (j - i)) (b := A ^ (j - i)) (c := A ^ i * A ^ (M * i - i)) (d := 1) (N := N) rfl u
  rw [t, Nat.mul_one] at s
  exact s.symm

theorem least (P : Nat → Prop) (n : Nat) (h : P n) : ∃ d, P d ∧ ∀ k, k < d → ¬ P k := by
  induction n using Nat.strongRecOn with
  | _ n ih =>
    by_cases hk : ∃ k, k < n ∧ P k
    · obtain ⟨k, h1, h2⟩ := hk
      exact ih k h1 h2
    · exact ⟨n, h, fun k h1 h2 => hk ⟨k, h1, h2⟩⟩

theorem order_dvd (A N d k : Nat) (hd : 1 ≤ d) (h : A ^ d % N = 1 % N) (hl : ∀ j, j < d → ¬ (1 ≤ j ∧ A ^ j % N = 1 % N)) (hk : A ^ k % N = 1 % N) : d ∣ k := by
  have e : A ^ (k % d) % N = 1 % N := by
    have h1 := pow_mul_one A N d (k / d) h
    have h2 := mulm (a := A ^ (d * (k / d))) (b := 1) (c := A ^ (k % d)) (d := A ^ (k % d)) (N := N) h1 rfl
    rw [← Nat.pow_add, Nat.div_add_mod, Nat.one_mul, hk] at h2
    exact h2.symm
  have hlt := Nat.mod_lt k hd
  by_cases h0 : k % d = 0
  · exact Nat.dvd_of_mod_eq_zero h0
  · exact absurd ⟨by omega, e⟩ (hl _ hlt)

/-! ### counting -/
theorem nodup_le {α : Type} [DecidableEq α] : ∀ (l l' : List α), l.Nodup → (∀ x, x ∈ l → x ∈ l') → l.length ≤ l'.length
  | [], _, _, _ => Nat.zero_le _
  | a :: l, l', hn, hs => by
    have ha := hs a (List.mem_cons_self ..)
    have hn' := List.nodup_cons.1 hn
    have := nodup_le l (l'.erase a) hn'.2 fun x hx => by
      have hx' := hs x (List.mem_cons_of_mem _ hx)
      have hne : x ≠ a := fun e => hn'.1 (e ▸ hx)
      exact (List.mem_erase_of_ne hne).2 hx'
    rw [List.length_erase_of_mem ha] at this
    have hpos : 1 ≤ l'.length := by
      cases l' with
      | nil => simp at ha
      | cons _ _ => simp
    simp only [List.length_cons]
    omega

theorem nodup_full {α : Type} [DecidableEq α] (l l' : List α) (hn : l.Nodup) (hs : ∀ x, x ∈ l → x ∈ l') (hl : l'.length ≤ l.length) : ∀ y, y ∈ l' → y ∈ l := by
  intro y hy
  refine Classical.byContradiction fun hne => ?_
  have := nodup_le l (l'.erase y) hn fun x hx => (List.mem_erase_of_ne (show x ≠ y from fun e => hne (e ▸ hx))).2 (hs x hx)
  rw [List.length_erase_of_mem hy] at this
  have hpos : 1 ≤ l'.length := by
    cases l' with
    | nil => simp at hy
    | cons _ _ => simp
  omega

theorem nodup_map_range (f : Nat → Nat) (n : Nat) (h : ∀ i j, i < j → j < n → f i ≠ f j) : ((List.range n).map f).Nodup := by
  rw [List.nodup_iff_pairwise_ne, List.pairwise_map]
  refine List.Pairwise.imp_of_mem (R := (· < ·)) ?_ (List.pairwise_lt_range)
  intro a b _ hb hab
  exact h a b hab (List.mem_range.1 hb)

/-! ### what a row proves -/
/-- All numbers that are not 0 modulo N are powers of A. -/
theorem row_gen (N A : Nat) (hN : 2 < N) (h1 : A ^ (N - 1) % N = 1) (hf : ∀ p, prim p → p ∣ N - 1 → A ^ ((N - 1) / p) % N ≠ 1) :
    ∀ a, a % N ≠ 0 → ∃ i, i < N - 1 ∧ A ^ i % N = a % N := by
  have one : 1 % N = 1 := Nat.mod_eq_of_lt (by omega)
  have h1' : A ^ (N - 1) % N = 1 % N := by rw [one, h1]
  -- the order of A is N - 1
  obtain ⟨d, ⟨hd, hdo⟩, hl⟩ := least (fun k => 1 ≤ k ∧ A ^ k % N = 1 % N) (N - 1) ⟨by omega, h1'⟩
  have hdv := order_dvd A N d (N - 1) hd hdo hl h1'
  have hdN : d = N - 1 := by
    obtain ⟨c, hc⟩ := hdv
    by_cases hc1 : c = 1
    · rw [hc1, Nat.mul_one] at hc; exact hc.symm
    · have hc0 : c ≠ 0 := by rintro rfl; simp at hc; omega
      obtain ⟨p, hp, ⟨e, he⟩⟩ := prim_divides c (by omega)
      have hpN : p ∣ N - 1 := ⟨d * e, by rw [hc, he, Nat.mul_left_comm]⟩
      refine absurd ?_ (hf p hp hpN)
      have hq : (N - 1) / p = d * e := by
        rw [hc, he, Nat.mul_left_comm]
        exact Nat.mul_div_cancel_left _ (by have := hp.1; omega)
      rw [hq, pow_mul_one A N d e hdo, one]
  subst hdN
  intro a ha
  -- N - 1 unlike powers, none of them 0: all numbers
  have hnz : ∀ i, A ^ i % N ≠ 0 := by
    intro i h0
    have := mulm (a := A ^ i) (b := 0) (c := A ^ ((N - 1) * i - i)) (d := A ^ ((N - 1) * i - i)) (N := N) (by simpa using h0) rfl
    rw [← Nat.pow_add, show i + ((N - 1) * i - i) = (N - 1) * i by have := Nat.le_mul_of_pos_left i (show 0 < N - 1 by omega); omega, pow_mul_one A N (N - 1) i h1', Nat.zero_mul, one] at this
    simp at this
  have hnd : ((List.range (N - 1)).map (fun i => A ^ i % N - 1)).Nodup := by
    refine nodup_map_range _ _ fun i j hij hj he => ?_
    have hi0 := hnz i
    have hj0 := hnz j
    have e : A ^ i % N = A ^ j % N := by omega
    exact hl (j - i) (by omega) ⟨by omega, pow_diff A N (N - 1) i j (by omega) h1' (by omega) e⟩
  have hall := nodup_full _ (List.range (N - 1)) hnd (fun x hx => by
    obtain ⟨i, _, rfl⟩ := List.mem_map.1 hx
    have := Nat.mod_lt (A ^ i) (show 0 < N by omega)
    have := hnz i
    exact List.mem_range.2 (by omega)) (by simp)
  have hlt := Nat.mod_lt a (show 0 < N by omega)
  obtain ⟨i, hi, he⟩ := List.mem_map.1 (hall (a % N - 1) (List.mem_range.2 (by omega)))
  have := hnz i
  exact ⟨i, List.mem_range.1 hi, by omega⟩

theorem row_fermat (N A : Nat) (hN : 2 < N) (h1 : A ^ (N - 1) % N = 1) (hg : ∀ a, a % N ≠ 0 → ∃ i, i < N - 1 ∧ A ^ i % N = a % N) (a : Nat) (ha : a % N ≠ 0) : a ^ (N - 1) % N = 1 := by
  have one : 1 % N = 1 := Nat.mod_eq_of_lt (by omega)
  obtain ⟨i, _, e⟩ := hg a ha
  rw [Nat.pow_mod, ← e, ← Nat.pow_mod, ← Nat.pow_mul, Nat.mul_comm, pow_mul_one A N (N - 1) i (by rw [one, h1]), one]

/-- Where every number that is not 0 has its power N - 1 as 1, N is a prime. -/
theorem prim_of_fermat (N : Nat) (hN : 2 < N) (h : ∀ a, a % N ≠ 0 → a ^ (N - 1) % N = 1) : prim N := by
  refine ⟨by omega, fun d hd => ?_⟩
  have hle := Nat.le_of_dvd (by omega) hd
  by_cases hdN : d = N
  · exact Or.inr hdN
  · left
    have h0 : d ≠ 0 := by rintro rfl; simp at hd; omega
    have hm : d % N = d := Nat.mod_eq_of_lt (by omega)
    have hp := h d (by rw [hm]; exact h0)
    -- d divides d ^ (N - 1) and N, so the rest 1
    have d1 : d ∣ d ^ (N - 1) := Nat.dvd_trans (Nat.dvd_refl d) (by
      have : d ^ (N - 1) = d ^ (N - 2) * d := by rw [← Nat.pow_succ]; congr 1; omega
      rw [this]; exact Nat.dvd_mul_left _ _)
    have d2 := (Nat.dvd_mod_iff hd).2 d1
    rw [hp] at d2
    exact Nat.dvd_one.1 d2

theorem fermat_two (a : Nat) (ha : a % 2 ≠ 0) : a ^ (2 - 1) % 2 = 1 := by
  simp; omega

end Go.Proofs.Ytokhpppealdfmaf

namespace Go.Proofs.Ytokhpppealdfmaf

/-- A group's two primes. -/
structure Grp (p q : Nat) : Prop where
  two : p = 2 * q + 1
  five : 5 ≤ q
  pp : prim p
  pq : prim q
  fer : ∀ a, a % p ≠ 0 → a ^ (p - 1) % p = 1

/-- An element. -/
def elm (p q x : Nat) : Bool := decide (1 ≤ x ∧ x < p ∧ x ^ q % p = 1)
theorem elm_iff {p q x : Nat} : elm p q x = true ↔ 1 ≤ x ∧ x < p ∧ x ^ q % p = 1 := by simp [elm]
theorem elm_not {p q x : Nat} : elm p q x = false ↔ ¬ (1 ≤ x ∧ x < p ∧ x ^ q % p = 1) := by
  rw [← elm_iff]
  cases elm p q x <;> simp

theorem Grp.odd {p q : Nat} (g : Grp p q) : q % 2 = 1 := by
  refine Classical.byContradiction fun h => ?_
  have h2 : 2 ∣ q := Nat.dvd_of_mod_eq_zero (by omega)
  have := g.five
  rcases g.pq.2 2 h2 with h | h <;> omega

theorem Grp.sq {p q : Nat} (g : Grp p q) {a : Nat} (ha : a % p ≠ 0) : a ^ q % p = 1 ∨ a ^ q % p = p - 1 := by
  have hp := g.two
  have h5 := g.five
  have h1 := g.fer a ha
  rw [show p - 1 = q + q by omega, Nat.pow_add, Nat.mul_mod] at h1
  have hlt : a ^ q % p < p := Nat.mod_lt _ (by omega)
  generalize a ^ q % p = b at *
  have hb : 1 ≤ b := by
    refine Classical.byContradiction fun h => ?_
    have : b = 0 := by omega
    rw [this] at h1
    simp at h1
  have hd : p ∣ (b - 1) * (b + 1) := by
    have e : (b - 1) * (b + 1) = b * b - 1 := by
      obtain ⟨c, rfl⟩ : ∃ c, b = c + 1 := ⟨b - 1, by omega⟩
      simp only [Nat.add_sub_cancel]
      have : (c + 1) * (c + 1) = c * (c + 1 + 1) + 1 := by
        rw [Nat.add_mul, Nat.mul_add c (c + 1) 1, Nat.mul_one, Nat.one_mul]
        omega
      omega
    rw [e]
    have h2 := Nat.div_add_mod (b * b) p
    exact ⟨b * b / p, by omega⟩
  rcases prim_or p _ _ g.pp hd with h | h
  · left
    rcases Nat.eq_zero_or_pos (b - 1) with h0 | h0
    · omega
    · have := Nat.le_of_dvd h0 h
      omega
  · right
    have := Nat.le_of_dvd (by omega) h
    omega

theorem neg_pow (a : Int) : ∀ k : Nat, (-a) ^ (2 * k + 1) = -(a ^ (2 * k + 1))
  | 0 => by
    show (-a) ^ (0 + 1) = -(a ^ (0 + 1))
    rw [Int.pow_succ, Int.pow_succ]
    simp
  | k + 1 => by
    have ih := neg_pow a k
    rw [show 2 * (k + 1) + 1 = (2 * k + 1) + 1 + 1 by omega, Int.pow_succ (-a), Int.pow_succ (-a), ih, Int.pow_succ a (2 * k + 1 + 1), Int.pow_succ a (2 * k + 1), Int.neg_mul_neg, Int.mul_neg]

theorem Grp.neg {p q : Nat} (g : Grp p q) {a : Nat} (h1 : 1 ≤ a) (h2 : a < p) : elm p q (p - a) = !elm p q a := by
  have hp := g.two
  have h5 := g.five
  have ho := g.odd
  have key : (((p - a) ^ q % p : Nat) : Int) = -((a ^ q : Nat) : Int) % (p : Int) := by
    rw [Int.natCast_emod, Int.natCast_pow, Int.natCast_pow, show ((p - a : Nat) : Int) = (p : Int) - (a : Int) by omega]
    obtain ⟨k, rfl⟩ : ∃ k, q = 2 * k + 1 := ⟨q / 2, by omega⟩
    rw [← neg_pow]
    exact cong_pow (cong_of 1 (by omega)) _
  have hm : (-((a ^ q : Nat) : Int)) % (p : Int) = -(((a ^ q % p : Nat) : Int)) % (p : Int) := by
    rw [Int.natCast_emod]
    generalize ((a ^ q : Nat) : Int) = X
    refine cong_of (-(X / (p : Int))) ?_
    have := Int.emod_add_mul_ediv X (p : Int)
    rw [Int.mul_neg]
    omega
  rw [hm] at key
  rcases g.sq (a := a) (by rw [Nat.mod_eq_of_lt h2]; omega) with h | h
  · rw [h] at key
    have e1 : elm p q a = true := elm_iff.2 ⟨h1, h2, h⟩
    have e2 : elm p q (p - a) = false := elm_not.2 fun ⟨_, _, h3⟩ => by
      rw [h3] at key
      have : (-((1 : Nat) : Int)) % (p : Int) = (p : Int) - 1 := by
        rw [show (-((1 : Nat) : Int)) = ((p : Int) - 1) + (p : Int) * (-1) by omega, Int.add_mul_emod_self_left, Int.emod_eq_of_lt (by omega) (by omega)]
      omega
    rw [e1, e2]
    rfl
  · rw [h] at key
    have e1 : elm p q a = false := elm_not.2 fun ⟨_, _, h3⟩ => by omega
    have e2 : elm p q (p - a) = true := elm_iff.2 ⟨by omega, by omega, by
      have : (-((p - 1 : Nat) : Int)) % (p : Int) = 1 := by
        rw [show (-((p - 1 : Nat) : Int)) = 1 + (p : Int) * (-1) by omega, Int.add_mul_emod_self_left, Int.emod_eq_of_lt (by omega) (by omega)]
      omega⟩
    rw [e1, e2]
    rfl

/-! ### how many there are -/
def sumN (f : Nat → Nat) : Nat → Nat
  | 0 => 0
  | n + 1 => sumN f n + f n
theorem sumN_split (f : Nat → Nat) (m : Nat) : ∀ k, sumN f (m + k) = sumN f m + sumN (fun i => f (m + i)) k
  | 0 => rfl
  | k + 1 => by
    show sumN f (m + k) + f (m + k) = sumN f m + (sumN (fun i => f (m + i)) k + f (m + k))
    rw [sumN_split f m k]
    omega
theorem sumN_back (f : Nat → Nat) (q : Nat) : ∀ j, j ≤ q → sumN f (q + 1 - j) + sumN (fun i => f (q - i)) j = sumN f (q + 1)
  | 0, _ => rfl
  | j + 1, h => by
    have ih := sumN_back f q j (by omega)
    show sumN f (q + 1 - (j + 1)) + (sumN (fun i => f (q - i)) j + f (q - j)) = _
    rw [← ih, show q + 1 - j = (q - j) + 1 by omega, show q + 1 - (j + 1) = q - j by omega]
    show _ = sumN f (q - j) + f (q - j) + _
    omega
theorem sumN_pair (f g : Nat → Nat) : ∀ k, (∀ i, i < k → f i + g i = 1) → sumN f k + sumN g k = k
  | 0, _ => rfl
  | k + 1, h => by
    have ih := sumN_pair f g k fun i hi => h i (by omega)
    have := h k (by omega)
    show sumN f k + f k + (sumN g k + g k) = k + 1
    omega
def cnt (p q n : Nat) : Nat := sumN (fun x => if elm p q x then 1 else 0) n
/-- Half of the numbers below p, but 0, are elements. -/
theorem Grp.count {p q : Nat} (g : Grp p q) : cnt p q p = q := by
  have hp := g.two
  have h5 := g.five
  unfold cnt
  have e0 : (fun x => if elm p q x then 1 else 0) 0 = 0 := by
    have : elm p q 0 = false := elm_not.2 fun h => by omega
    simp [this]
  have h1 := sumN_split (fun x => if elm p q x then 1 else 0) (q + 1) q
  have h2 := sumN_back (fun x => if elm p q x then 1 else 0) q q (Nat.le_refl _)
  have h3 := sumN_pair (fun i => (fun x => if elm p q x then 1 else 0) (q + 1 + i)) (fun i => (fun x => if elm p q x then 1 else 0) (q - i)) q fun i hi => by
    have hn := g.neg (a := q - i) (by omega) (by omega)
    rw [show p - (q - i) = q + 1 + i by omega] at hn
    show (if elm p q (q + 1 + i) then 1 else 0) + (if elm p q (q - i) then 1 else 0) = 1
    rw [hn]
    cases elm p q (q - i) <;> simp
  have h4 : sumN (fun x => if elm p q x then 1 else 0) (q + 1 - q) = 0 := by
    rw [show q + 1 - q = 0 + 1 by omega]
    show 0 + (fun x => if elm p q x then 1 else 0) 0 = 0
    rw [e0]
  have h6 : sumN (fun x => if elm p q x then 1 else 0) p = sumN (fun x => if elm p q x then 1 else 0) (q + 1 + q) := by rw [show q + 1 + q = p by omega]
  rw [h6, h1]
  dsimp only at h2 h3 h4 ⊢
  omega

/-- The powers of an element that isn't 1 are unlike. -/
theorem Grp.powers {p q : Nat} (g : Grp p q) {x : Nat} (hx : elm p q x = true) (hx1 : x ≠ 1) {i j : Nat} (hij : i < j) (hj : j < q) : x ^ i % p ≠ x ^ j % p := by
  intro he
  have hp := g.two
  have h5 := g.five
  obtain ⟨x1, x2, x3⟩ := elm_iff.1 hx
  have e1 : (1 : Nat) % p = 1 := Nat.mod_eq_of_lt (by omega)
  have hd := pow_diff x p q i j (by omega) (by rw [x3, e1]) (by omega) he
  -- the least positive exponent
  obtain ⟨d, ⟨hd1, hd2⟩, hl⟩ := least (fun k => 1 ≤ k ∧ x ^ k % p = 1 % p) (j - i) ⟨by omega, hd⟩
  have hq : d ∣ q := order_dvd x p d q hd1 hd2 hl (by rw [x3, e1])
  have hji : d ∣ j - i := order_dvd x p d (j - i) hd1 hd2 hl hd
  rcases g.pq.2 d hq with h | h
  · subst h
    rw [e1] at hd2
    have : x ^ 1 % p = x := by rw [Nat.pow_one, Nat.mod_eq_of_lt x2]
    omega
  · have := Nat.le_of_dvd (by omega) hji
    omega

/-! ### numbers laid on elements -/
def layN (p q k : Nat) : Nat := if elm p q (k + 1) then k + 1 else p - k - 1
def backN (p q x : Nat) : Nat := if x ≤ q then x - 1 else p - x - 1
theorem Grp.lay_in {p q : Nat} (g : Grp p q) {k : Nat} (h : k < q) : elm p q (layN p q k) = true := by
  have hp := g.two
  unfold layN
  cases he : elm p q (k + 1) with
  | true => rw [if_pos rfl]; exact he
  | false =>
    rw [if_neg (by simp)]
    have := g.neg (a := k + 1) (by omega) (by omega)
    rw [he] at this
    rw [show p - k - 1 = p - (k + 1) by omega, this]
    rfl
theorem Grp.back_lay {p q : Nat} (g : Grp p q) {k : Nat} (h : k < q) : backN p q (layN p q k) = k := by
  have hp := g.two
  unfold layN backN
  split
  · rw [if_pos (by omega)]
    omega
  · rw [if_neg (by omega)]
    omega
theorem Grp.back_lt {p q : Nat} (g : Grp p q) {x : Nat} (h : elm p q x = true) : backN p q x < q := by
  have hp := g.two
  have h5 := g.five
  obtain ⟨h1, h2, _⟩ := elm_iff.1 h
  unfold backN
  split <;> omega
theorem Grp.lay_back {p q : Nat} (g : Grp p q) {x : Nat} (h : elm p q x = true) : layN p q (backN p q x) = x := by
  have hp := g.two
  have h5 := g.five
  obtain ⟨h1, h2, _⟩ := elm_iff.1 h
  unfold layN backN
  by_cases hx : x ≤ q
  · rw [if_pos hx, show x - 1 + 1 = x by omega, if_pos h]
  · rw [if_neg hx, show p - x - 1 + 1 = p - x by omega]
    have hn := g.neg h1 h2
    rw [h] at hn
    rw [hn, if_neg (by simp)]
    omega

end Go.Proofs.Ytokhpppealdfmaf

namespace Go.Proofs.Ytokhpppealdfmaf

/-- What is left of r when f is divided out as often as it goes, so many steps at most. -/
def stripN : Nat → Int → Int → Int
  | 0, _, r => r
  | k + 1, f, r => if r % f = 0 then stripN k f (r / f) else r
def stripI (f r : Int) : Int := stripN r.toNat f r

theorem quo_bd {f r : Int} (hf : 2 ≤ f) (hr : 1 ≤ r) (h : r % f = 0) : 1 ≤ r / f ∧ r / f < r := by
  have e := Int.mul_ediv_add_emod r f
  rw [h, Int.add_zero] at e
  have h1 : 1 ≤ r / f := by
    refine Classical.byContradiction fun hc => ?_
    have : f * (r / f) ≤ f * 0 := Int.mul_le_mul_of_nonneg_left (by omega) (by omega)
    omega
  have h2 : 2 * (r / f) ≤ f * (r / f) := Int.mul_le_mul_of_nonneg_right hf (by omega)
  omega

theorem stripN_enough (f : Int) (hf : 2 ≤ f) : ∀ (n k k' : Nat) (r : Int), 1 ≤ r → r.toNat ≤ n → n ≤ k → n ≤ k' → stripN k f r = stripN k' f r
  | 0, _, _, r, hr, hn, _, _ => by omega
  | n + 1, 0, _, r, hr, hn, hk, _ => by omega
  | n + 1, _ + 1, 0, r, hr, hn, _, hk => by omega
  | n + 1, k + 1, k' + 1, r, hr, hn, hk, hk' => by
    unfold stripN
    split
    · rename_i h
      have ⟨h1, h2⟩ := quo_bd hf hr h
      exact stripN_enough f hf n k k' _ h1 (by omega) (by omega) (by omega)
    · rfl

theorem stripI_step {f r : Int} (hf : 2 ≤ f) (hr : 1 ≤ r) (h : r % f = 0) : stripI f r = stripI f (r / f) := by
  have ⟨h1, h2⟩ := quo_bd hf hr h
  have e : stripI f r = stripN (r.toNat - 1) f (r / f) := by
    unfold stripI
    obtain ⟨k, hk⟩ : ∃ k, r.toNat = k + 1 := ⟨r.toNat - 1, by omega⟩
    rw [hk]
    show (if r % f = 0 then stripN k f (r / f) else r) = _
    rw [if_pos h]
    rfl
  rw [e]
  exact stripN_enough f hf (r / f).toNat _ _ _ h1 (Nat.le_refl _) (by omega) (Nat.le_refl _)

theorem stripI_stop {f r : Int} (hr : 1 ≤ r) (h : r % f ≠ 0) : stripI f r = r := by
  unfold stripI
  obtain ⟨k, hk⟩ : ∃ k, r.toNat = k + 1 := ⟨r.toNat - 1, by omega⟩
  rw [hk]
  show (if r % f = 0 then stripN k f (r / f) else r) = _
  rw [if_neg h]

theorem stripN_bd (f : Int) (hf : 2 ≤ f) : ∀ (k : Nat) (r : Int), 1 ≤ r → 1 ≤ stripN k f r ∧ stripN k f r ≤ r
  | 0, r, hr => ⟨hr, Int.le_refl _⟩
  | k + 1, r, hr => by
    unfold stripN
    split
    · rename_i h
      have ⟨h1, h2⟩ := quo_bd hf hr h
      have ⟨h3, h4⟩ := stripN_bd f hf k _ h1
      exact ⟨h3, by omega⟩
    · exact ⟨hr, Int.le_refl _⟩
theorem stripI_bd {f r : Int} (hf : 2 ≤ f) (hr : 1 ≤ r) : 1 ≤ stripI f r ∧ stripI f r ≤ r := stripN_bd f hf _ r hr

/-- r is a product of powers of the k numbers from place i on, of each once at least. -/
def partsG (F : Nat → Int) : Nat → Nat → Int → Bool
  | 0, _, r => r == 1
  | k + 1, i, r => (r % F i == 0) && partsG F k (i + 1) (stripI (F i) r)

/-- 2, or one of the first k numbers. -/
def namedB (N : Nat → Int) (k : Nat) (n : Int) : Bool := n == 2 || (List.range k).any fun i => N i == n
/-- The factors of a row: 1 to 16, rising, each named. -/
def standB (F : Nat → Int) (L : Nat) (N : Nat → Int) (k : Nat) : Bool :=
  decide (1 ≤ L) && decide (L ≤ 16) && (List.range L).all fun j => (j == 0 || decide (F (j - 1) < F j)) && namedB N k (F j)
/-- The powers of A come to 1 at n - 1 and not ahead of it. -/
def orderB (n A : Int) (F : Nat → Int) (L : Nat) : Bool := powI A (n - 1) n == 1 && (List.range L).all fun j => !(powI A ((n - 1) / F j) n == 1)
/-- A row holds, behind k rows. -/
def rowB (n A : Int) (F : Nat → Int) (L : Nat) (N : Nat → Int) (k : Nat) : Bool :=
  decide (3 ≤ n) && decide (n ≤ 4611686018427387904) && standB F L N k && partsG F L 0 (n - 1) && orderB n A F L
/-- A certificate of n rows holds. -/
def holdsB (N A : Nat → Int) (F : Nat → Nat → Int) (L : Nat → Nat) (n : Nat) : Bool := decide (n ≤ 64) && (List.range n).all fun i => rowB (N i) (A i) (F i) (L i) N i
def provedB (N A : Nat → Int) (F : Nat → Nat → Int) (L : Nat → Nat) (n : Nat) (x : Int) : Bool := holdsB N A F L n && namedB N n x

theorem namedB_iff {N : Nat → Int} {k : Nat} {n : Int} : namedB N k n = true ↔ n = 2 ∨ ∃ i, i < k ∧ N i = n := by
  unfold namedB
  simp [List.any_eq_true]
theorem namedB_no {N : Nat → Int} {k : Nat} {n : Int} (h2 : n ≠ 2) (h : ∀ i, i < k → N i ≠ n) : namedB N k n = false := by
  rw [← Bool.not_eq_true, namedB_iff]
  rintro (h' | ⟨i, hi, he⟩)
  · exact h2 h'
  · exact h i hi he
theorem standB_iff {F : Nat → Int} {L : Nat} {N : Nat → Int} {k : Nat} : standB F L N k = true ↔ (1 ≤ L ∧ L ≤ 16) ∧ ∀ j, j < L → (j = 0 ∨ F (j - 1) < F j) ∧ namedB N k (F j) = true := by
  unfold standB
  simp [List.all_eq_true]
theorem orderB_iff {n A : Int} {F : Nat → Int} {L : Nat} : orderB n A F L = true ↔ powI A (n - 1) n = 1 ∧ ∀ j, j < L → powI A ((n - 1) / F j) n ≠ 1 := by
  unfold orderB
  simp [List.all_eq_true]
theorem rowB_iff {n A : Int} {F : Nat → Int} {L : Nat} {N : Nat → Int} {k : Nat} : rowB n A F L N k = true ↔ 3 ≤ n ∧ n ≤ 4611686018427387904 ∧ standB F L N k = true ∧ partsG F L 0 (n - 1) = true ∧ orderB n A F L = true := by
  unfold rowB
  simp [and_assoc]
theorem holdsB_iff {N A : Nat → Int} {F : Nat → Nat → Int} {L : Nat → Nat} {n : Nat} : holdsB N A F L n = true ↔ n ≤ 64 ∧ ∀ i, i < n → rowB (N i) (A i) (F i) (L i) N i = true := by
  unfold holdsB
  simp [List.all_eq_true]
theorem provedB_iff {N A : Nat → Int} {F : Nat → Nat → Int} {L : Nat → Nat} {n : Nat} {x : Int} : provedB N A F L n x = true ↔ holdsB N A F L n = true ∧ namedB N n x = true := by
  unfold provedB
  simp

theorem no_of {b : Bool} (h : b = true → False) : b = false := by cases b with
  | false => rfl
  | true => exact (h rfl).elim

/-- Where the rows ahead have numbers from 3 on, the factors of a row are 2 or above. -/
theorem stand_two {F : Nat → Int} {L : Nat} {N : Nat → Int} {k : Nat} (h : standB F L N k = true) (hN : ∀ i, i < k → 3 ≤ N i) : ∀ j, j < L → 2 ≤ F j := by
  intro j hj
  rcases namedB_iff.1 ((standB_iff.1 h).2 j hj).2 with h | ⟨i, hi, h⟩
  · omega
  · have := hN i hi
    omega

theorem holds_three {N A : Nat → Int} {F : Nat → Nat → Int} {L : Nat → Nat} {n : Nat} (h : ∀ i, i < n → rowB (N i) (A i) (F i) (L i) N i = true) : ∀ i, i < n → 3 ≤ N i := fun i hi => (rowB_iff.1 (h i hi)).1

/-- Of a certificate that holds each beginning does. -/
theorem holds_begin {N A : Nat → Int} {F : Nat → Nat → Int} {L : Nat → Nat} {n k : Nat} (h : holdsB N A F L n = true) (hk : k ≤ n) : holdsB N A F L k = true := by
  have ⟨h1, h2⟩ := holdsB_iff.1 h
  exact holdsB_iff.2 ⟨by omega, fun i hi => h2 i (by omega)⟩
theorem proved_begin {N A : Nat → Int} {F : Nat → Nat → Int} {L : Nat → Nat} {n k : Nat} {x : Int} (h : holdsB N A F L n = true) (hk : k ≤ n) (hp : provedB N A F L k x = true) : provedB N A F L n x = true := by
  refine provedB_iff.2 ⟨h, namedB_iff.2 ?_⟩
  rcases namedB_iff.1 (provedB_iff.1 hp).2 with h | ⟨i, hi, h⟩
  · exact Or.inl h
  · exact Or.inr ⟨i, by omega, h⟩

/-! ### what is proved is a prime -/
theorem strip_prim (p q : Nat) (hp : prim p) (hq : prim q) (hne : p ≠ q) : ∀ (k : Nat) (r : Int), 1 ≤ r → (p : Int) ∣ r → (p : Int) ∣ stripN k q r
  | 0, _, _, h => h
  | k + 1, r, hr, h => by
    unfold stripN
    split
    · rename_i h0
      have h2 : (2 : Int) ≤ (q : Int) := by have := hq.1; omega
      have ⟨h1, _⟩ := quo_bd h2 hr h0
      refine strip_prim p q hp hq hne k _ h1 ?_
      have e := Int.mul_ediv_add_emod r q
      rw [h0, Int.add_zero] at e
      rw [← e] at h
      obtain ⟨s, hs⟩ := Int.eq_ofNat_of_zero_le (show 0 ≤ r / (q : Int) by omega)
      rw [hs] at h ⊢
      have h' : p ∣ q * s := by exact_mod_cast h
      exact_mod_cast prim_strip p q s hp hq hne h'
    · exact h

theorem parts_has (F : Nat → Int) (p : Nat) (hp : prim p) : ∀ (k i : Nat) (r : Int), 1 ≤ r → (∀ j, i ≤ j → j < i + k → ∃ q : Nat, prim q ∧ F j = (q : Int)) → partsG F k i r = true → (p : Int) ∣ r → ∃ j, i ≤ j ∧ j < i + k ∧ F j = (p : Int)
  | 0, i, r, hr, _, h, hd => by
    simp [partsG] at h
    subst h
    have := Int.le_of_dvd (by omega) hd
    have := hp.1
    omega
  | k + 1, i, r, hr, hF, h, hd => by
    obtain ⟨q, hq, e⟩ := hF i (Nat.le_refl _) (by omega)
    by_cases hne : p = q
    · exact ⟨i, Nat.le_refl _, by omega, by rw [e, hne]⟩
    · unfold partsG at h
      rw [e] at h
      simp only [Bool.and_eq_true] at h
      have h2 : (2 : Int) ≤ (q : Int) := by have := hq.1; omega
      have hs := strip_prim p q hp hq hne r.toNat r hr hd
      have hb := stripI_bd h2 hr
      obtain ⟨j, h3, h4, h5⟩ := parts_has F p hp k (i + 1) (stripI q r) hb.1 (fun j h3 h4 => hF j (by omega) (by omega)) h.2 hs
      exact ⟨j, by omega, by omega, h5⟩

theorem powI_nat (b e q : Nat) (h : okM (q : Int) = true) : powI (b : Int) (e : Int) (q : Int) = ((b ^ e % q : Nat) : Int) := by
  rw [powI_yes h, Int.toNat_natCast, Int.natCast_emod, Int.natCast_pow]

theorem holds_prim {N A : Nat → Int} {F : Nat → Nat → Int} {L : Nat → Nat} {n : Nat} (hA : ∀ i, i < n → 0 ≤ A i) (h : ∀ i, i < n → rowB (N i) (A i) (F i) (L i) N i = true) :
    ∀ i, i < n → ∃ q : Nat, N i = (q : Int) ∧ prim q ∧ 2 < q ∧ ∀ a : Nat, a % q ≠ 0 → a ^ (q - 1) % q = 1 := by
  intro i
  induction i using Nat.strongRecOn with
  | _ i ih =>
    intro hi
    obtain ⟨h1, h2, h3, h4, h5⟩ := rowB_iff.1 (h i hi)
    obtain ⟨o1, o2⟩ := orderB_iff.1 h5
    have hF : ∀ j, j < L i → ∃ q : Nat, prim q ∧ F i j = (q : Int) := by
      intro j hj
      rcases namedB_iff.1 ((standB_iff.1 h3).2 j hj).2 with e | ⟨k, hk, e⟩
      · exact ⟨2, prim_two, e⟩
      · obtain ⟨q, e1, e2, _⟩ := ih k hk (by omega)
        exact ⟨q, e2, by rw [← e, e1]⟩
    obtain ⟨q, hq⟩ := Int.eq_ofNat_of_zero_le (show 0 ≤ N i by omega)
    obtain ⟨b, hb⟩ := Int.eq_ofNat_of_zero_le (hA i hi)
    rw [hq] at h1 h2 h4 o1 o2 ⊢
    rw [hb] at o1 o2
    have hok : okM (q : Int) = true := okM_of (by omega) h2
    have hq2 : 2 < q := by omega
    have e1 : ((q : Int) - 1) = ((q - 1 : Nat) : Int) := by omega
    rw [e1] at h4 o1 o2
    rw [powI_nat b _ q hok] at o1
    have g1 : b ^ (q - 1) % q = 1 := by exact_mod_cast o1
    have gen := row_gen q b hq2 g1 fun p hp hd => by
      obtain ⟨j, _, hj, hF'⟩ := parts_has (F i) p hp (L i) 0 ((q - 1 : Nat) : Int) (by omega) (fun j _ hj => hF j (by omega)) h4 (by exact_mod_cast hd)
      have := o2 j (by omega)
      rw [hF', ← Int.natCast_ediv, powI_nat b _ q hok] at this
      exact fun hc => this (by exact_mod_cast hc)
    have fer := row_fermat q b hq2 g1 gen
    exact ⟨q, rfl, prim_of_fermat q hq2 fer, hq2, fer⟩

theorem proved_prim {N A : Nat → Int} {F : Nat → Nat → Int} {L : Nat → Nat} {n : Nat} {x : Int} (hA : ∀ i, i < n → 0 ≤ A i) (h : provedB N A F L n x = true) :
    okM x = true ∧ ∃ q : Nat, x = (q : Int) ∧ prim q ∧ ∀ a : Nat, a % q ≠ 0 → a ^ (q - 1) % q = 1 := by
  obtain ⟨h1, h2⟩ := provedB_iff.1 h
  obtain ⟨h3, h4⟩ := holdsB_iff.1 h1
  rcases namedB_iff.1 h2 with rfl | ⟨i, hi, rfl⟩
  · exact ⟨by decide +kernel, 2, rfl, prim_two, fermat_two⟩
  · obtain ⟨q, e1, e2, e3, e4⟩ := holds_prim hA h4 i hi
    have := rowB_iff.1 (h4 i hi)
    exact ⟨okM_of (by omega) this.2.1, q, e1, e2, e4⟩

/-- No number from 2 on whose square is at most a prime divides it. -/
theorem prim_root {q : Nat} (hq : prim q) {d : Int} (h0 : 2 ≤ d) (h1 : d * d ≤ (q : Int)) : (q : Int) % d ≠ 0 := by
  intro h
  obtain ⟨k, rfl⟩ := Int.eq_ofNat_of_zero_le (show 0 ≤ d by omega)
  have hd : k ∣ q := by
    refine Nat.dvd_of_mod_eq_zero ?_
    exact_mod_cast h
  have h2 : 2 * (k : Int) ≤ (k : Int) * k := Int.mul_le_mul_of_nonneg_right h0 (by omega)
  rcases hq.2 k hd with h | h <;> omega

theorem fermat_zero {q : Nat} {a : Int} (hq : prim q) (hok : okM (q : Int) = true) (h : a % (q : Int) = 0) : powI a ((q : Int) - 1) q = 0 := by
  rw [powI_yes hok]
  have h2 := hq.1
  obtain ⟨k, hk⟩ : ∃ k, ((q : Int) - 1).toNat = k + 1 := ⟨q - 2, by omega⟩
  rw [hk, Int.pow_succ, Int.mul_emod, h]
  simp

theorem fermat_one {q : Nat} {a : Int} (h0 : 0 ≤ a) (hok : okM (q : Int) = true) (hf : ∀ a : Nat, a % q ≠ 0 → a ^ (q - 1) % q = 1) (h : a % (q : Int) ≠ 0) : powI a ((q : Int) - 1) q = 1 := by
  have hm := okM_yes hok
  obtain ⟨b, rfl⟩ := Int.eq_ofNat_of_zero_le h0
  have := hf b (fun hc => h (by exact_mod_cast hc))
  rw [show ((q : Int) - 1) = ((q - 1 : Nat) : Int) by omega, powI_nat b _ q hok, this]
  rfl

theorem fermat_inv {q : Nat} {a : Int} (h0 : 0 ≤ a) (hq : prim q) (hok : okM (q : Int) = true) (hf : ∀ a : Nat, a % q ≠ 0 → a ^ (q - 1) % q = 1) (h : a % (q : Int) ≠ 0) : invB a q = true ∧ mulI a (invI a q) q = 1 := by
  have hm := okM_yes hok
  have h1 := fermat_one h0 hok hf h
  have hb : invB a q = true := by
    have h2 := hq.1
    refine (inv_has (n := a ^ (q - 2) % q) hok (mod_bd _ hok).1 (mod_bd _ hok).2 ?_).1
    rw [powI_yes hok, show ((q : Int) - 1).toNat = (q - 2) + 1 by omega, Int.pow_succ, Int.mul_comm] at h1
    rw [← h1]
    exact cong_mul rfl (mod_self _ _)
  obtain ⟨_, _, _, h2⟩ := inv_is hb
  exact ⟨hb, by rw [mulI_yes hok]; exact h2⟩

/-- All that a proved number x does with a number y. -/
theorem fermat_all {N A : Nat → Int} {F : Nat → Nat → Int} {L : Nat → Nat} {n : Nat} {x y : Int} (hA : ∀ i, i < n → 0 ≤ A i) (h : provedB N A F L n x = true) (y0 : 0 ≤ y) :
    2 ≤ x ∧ x ≤ 4611686018427387904 ∧ (y % x = 0 → powI y (x - 1) x = 0) ∧ (y % x ≠ 0 → powI y (x - 1) x = 1 ∧ invB y x = true ∧ mulI y (invI y x) x = 1) := by
  obtain ⟨hok, q, rfl, hq, hf⟩ := proved_prim hA h
  have hm := okM_yes hok
  refine ⟨hm.1, hm.2, fermat_zero hq hok, fun hy => ⟨fermat_one y0 hok hf hy, fermat_inv y0 hq hok hf hy⟩⟩

/-- A proved number has no divisor up to its root. -/
theorem true_all {N A : Nat → Int} {F : Nat → Nat → Int} {L : Nat → Nat} {n : Nat} {x : Int} (hA : ∀ i, i < n → 0 ≤ A i) (h : provedB N A F L n x = true) :
    2 ≤ x ∧ ∀ d : Int, 2 ≤ d → d * d ≤ x → x % d ≠ 0 := by
  obtain ⟨hok, q, rfl, hq, hf⟩ := proved_prim hA h
  exact ⟨(okM_yes hok).1, fun d h0 h1 => prim_root hq h0 h1⟩

theorem root_bd {d x : Int} (h : d * d ≤ x) (hx : x ≤ 10000000) : d < 10000 := by
  refine Classical.byContradiction fun hc => ?_
  have : 10000 * 10000 ≤ d * d := Int.mul_le_mul (by omega) (by omega) (by omega) (by omega)
  omega
theorem sq_bd {d : Int} (h0 : 2 ≤ d) (h1 : d ≤ 10000) : 0 ≤ d * d ∧ d * d ≤ 100000000 := by
  have h2 : d * d ≤ 10000 * 10000 := Int.mul_le_mul h1 h1 (by omega) (by omega)
  have h3 : 0 * 0 ≤ d * d := Int.mul_le_mul (by omega) (by omega) (by omega) (by omega)
  omega

end Go.Proofs.Ytokhpppealdfmaf

namespace Go.Proofs.Ytokhpppealdfmaf
open Go.RowKit

/-- Numbers that lie one behind the other. -/
def FacsIn (w : World) (a : Option Addr) (len : Nat) (F : Nat → Int) : Prop :=
  len = 0 ∨ ∃ b off, a = some ⟨b, off, none⟩ ∧ b < w.heap.size ∧ ∀ j, j < len → w.cell? ⟨b, off + j, none⟩ = some (.int .u64 (F j)) ∧ 0 ≤ F j ∧ F j ≤ 18446744073709551615

/-- One row in its three cells. -/
structure RowAt (w : World) (b off : Nat) (n A : Int) (FA : Option Addr) (L C : Nat) (F : Nat → Int) : Prop where
  c0 : w.cell? ⟨b, off, none⟩ = some (.int .u64 n)
  c1 : w.cell? ⟨b, off + 1, none⟩ = some (.int .u64 A)
  c2 : w.cell? ⟨b, off + 2, none⟩ = some (.slice FA L C)
  n0 : 0 ≤ n
  n1 : n ≤ 18446744073709551615
  a0 : 0 ≤ A
  a1 : A ≤ 18446744073709551615
  l0 : L ≤ C
  l1 : C ≤ maxLen
  facs : FacsIn w FA L F

/-- Rows that lie one behind the other. -/
def RowsIn (w : World) (a : Option Addr) (n : Nat) (N A : Nat → Int) (FA : Nat → Option Addr) (L C : Nat → Nat) (F : Nat → Nat → Int) : Prop :=
  n = 0 ∨ ∃ b off, a = some ⟨b, off, none⟩ ∧ b < w.heap.size ∧ ∀ i, i < n → RowAt w b (off + i * 3) (N i) (A i) (FA i) (L i) (C i) (F i)

theorem FacsIn.below {w w' : World} {a : Option Addr} {len : Nat} {F : Nat → Int} (h : FacsIn w a len F) (hb : Below w.heap.size w w') : FacsIn w' a len F := by
  rcases h with h | ⟨b, off, ha, hl, hc⟩
  · exact Or.inl h
  · exact Or.inr ⟨b, off, ha, Nat.lt_of_lt_of_le hl hb.size, fun j hj => ⟨(hb.cell hl).trans (hc j hj).1, (hc j hj).2⟩⟩

theorem RowAt.below {w w' : World} {b off : Nat} {n A : Int} {FA : Option Addr} {L C : Nat} {F : Nat → Int} (h : RowAt w b off n A FA L C F) (hl : b < w.heap.size) (hb : Below w.heap.size w w') : RowAt w' b off n A FA L C F where
  c0 := (hb.cell hl).trans h.c0
  c1 := (hb.cell hl).trans h.c1
  c2 := (hb.cell hl).trans h.c2
  n0 := h.n0
  n1 := h.n1
  a0 := h.a0
  a1 := h.a1
  l0 := h.l0
  l1 := h.l1
  facs := h.facs.below hb

theorem RowsIn.below {w w' : World} {a : Option Addr} {n : Nat} {N A : Nat → Int} {FA : Nat → Option Addr} {L C : Nat → Nat} {F : Nat → Nat → Int} (h : RowsIn w a n N A FA L C F) (hb : Below w.heap.size w w') : RowsIn w' a n N A FA L C F := by
  rcases h with h | ⟨b, off, ha, hl, hc⟩
  · exact Or.inl h
  · exact Or.inr ⟨b, off, ha, Nat.lt_of_lt_of_le hl hb.size, fun i hi => (hc i hi).below hl hb⟩

theorem RowsIn.take {w : World} {a : Option Addr} {n k : Nat} {N A : Nat → Int} {FA : Nat → Option Addr} {L C : Nat → Nat} {F : Nat → Nat → Int} (h : RowsIn w a n N A FA L C F) (hk : k ≤ n) : RowsIn w a k N A FA L C F := by
  rcases h with h | ⟨b, off, ha, hl, hc⟩
  · exact Or.inl (by omega)
  · exact Or.inr ⟨b, off, ha, hl, fun i hi => hc i (by omega)⟩

theorem RowsIn.a0 {w : World} {a : Option Addr} {n : Nat} {N A : Nat → Int} {FA : Nat → Option Addr} {L C : Nat → Nat} {F : Nat → Nat → Int} (h : RowsIn w a n N A FA L C F) : ∀ i, i < n → 0 ≤ A i := by
  intro i hi
  rcases h with h | ⟨b, off, ha, hl, hc⟩
  · omega
  · exact (hc i hi).a0

theorem ret_bool {a b : Bool} (h : a = b) : Ending.returned (.bool a) = .returned (.bool b) := by rw [h]

theorem below_new {w w' : World} (h : Below w.heap.size w w') (o : Obj) : Below w.heap.size w (w'.alloc o) := h.alloc h.size o

theorem upto_succ {P : Nat → Prop} {i : Nat} (h : ∀ j, j < i → P j) (hi : P i) : ∀ j, j < i + 1 → P j := by
  intro j hj
  by_cases he : j = i
  · rw [he]; exact hi
  · exact h j (by omega)

theorem idx_next (i : Nat) : Value.int .i64 ((i : Int) + 1) = .int .i64 ((i + 1 : Nat) : Int) := by
  rw [Int.natCast_add]
  rfl

theorem below_draws {w w' : World} (h : ∃ n, w' = w.drewN n) : Below w.heap.size w w' := by
  obtain ⟨n, rfl⟩ := h
  exact below_drewN (Below.refl _ _) n

/-- Old memory is alone still behind a second step. -/
theorem below_then {w w1 w2 : World} (h1 : Below w.heap.size w w1) (h2 : Below w1.heap.size w1 w2) : Below w.heap.size w w2 := h1.trans (h2.mono h1.size)

end Go.Proofs.Ytokhpppealdfmaf

namespace Go.Proofs.Ytokhpppealdfmaf
open Go.RowKit

end Go.Proofs.Ytokhpppealdfmaf
