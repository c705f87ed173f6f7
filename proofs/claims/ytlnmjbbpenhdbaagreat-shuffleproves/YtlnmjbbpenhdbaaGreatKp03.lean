/-
  What the proof needs, part 3.
-/
import Derived.Test.YtlnmjbbpenhdbaaGreatKp00
import Derived.Laws.Bits64b
import Derived.Lib.BitFns
namespace Go.Proofs.YtlnmjbbpenhdbaaGreat
open Tryz
set_option linter.unusedSimpArgs false
set_option linter.unusedVariables false
set_option maxRecDepth 100000
set_option maxHeartbeats 32000000
section
open Go.Lib
theorem zcO (q y1 y0 : Int) : q * (y1 * 4294967296 + y0) = q * y1 * 4294967296 + q * y0 := by
 rw [Int.mul_add, Int.mul_assoc]
theorem prod_bd (a b A B : Int) (h0 : 0 <= a) (h1 : a <= A) (h2 : 0 <= b) (h3 : b <= B) : 0 <= a * b /\ a * b <= A * B :=
 ⟨Int.mul_nonneg h0 h2, Int.mul_le_mul h1 h3 h2 (by omega)⟩
theorem zdM (a b c : Int) (hc : 0 < c) (h : a * c < b * c) : a < b := Int.lt_of_mul_lt_mul_right h (by omega)
theorem digit_gt (u d y y1 y0 q r : Int) (hy : y = y1 * 4294967296 + y0) (hp : 0 < y) (hu : q * y1 + r = u)
  (h : 4294967296 * r + d < q * y0) : (u * 4294967296 + d) / y + 1 <= q := by
 have e := zcO q y1 y0
 rw [<- hy] at e
 have hlt : u * 4294967296 + d < q * y := by rw [e]; omega
 have := Int.ediv_mul_le (u * 4294967296 + d) (b := y) (by omega)
 have := zdM ((u * 4294967296 + d) / y) q y hp (by omega)
 omega
theorem digit_le (u d y y1 y0 q r : Int) (hy : y = y1 * 4294967296 + y0) (hp : 0 < y) (hu : q * y1 + r = u)
  (h : q * y0 <= 4294967296 * r + d) : q <= (u * 4294967296 + d) / y := by
 have e := zcO q y1 y0
 rw [<- hy] at e
 have hle : q * y <= u * 4294967296 + d := by rw [e]; omega
 exact Int.le_ediv_of_mul_le hp hle
theorem digit_lt (u d y : Int) (hp : 0 < y) (hu : u < y) (hd : d <= 4294967295) : (u * 4294967296 + d) / y <= 4294967295 := by
 have : (u * 4294967296 + d) / y < 4294967296 := Int.ediv_lt_of_lt_mul hp (by omega)
 omega
theorem digit_brk (u d y y1 y0 q r : Int) (hy : y = y1 * 4294967296 + y0) (h1 : 1 <= y1) (h0 : 0 <= y0) (h0' : y0 <= 4294967295) (hd : 0 <= d) (hq : 0 <= q)
  (huy : u < y) (hu : q * y1 + r = u) (hr : 4294967296 <= r) : q <= (u * 4294967296 + d) / y := by
 refine digit_le u d y y1 y0 q r hy (by omega) hu ?_
 have hlt : q * y1 < 4294967296 * y1 := by omega
 have hq' : q < 4294967296 := zdM q 4294967296 y1 (by omega) hlt
 have := (prod_bd q y0 4294967296 4294967295 hq (by omega) h0 h0').2
 omega
theorem zex (u d y y1 y0 : Int) (hy : y = y1 * 4294967296 + y0) (h1 : 1 <= y1) (h0 : 0 <= y0) (hd : d <= 4294967295) (hu : 0 <= u) (hd0 : 0 <= d) : (u * 4294967296 + d) / y <= u / y1 := by
 have hq : 0 <= (u * 4294967296 + d) / y := Int.ediv_nonneg (by omega) (by omega)
 have e := zcO ((u * 4294967296 + d) / y) y1 y0
 rw [<- hy] at e
 have h2 := Int.ediv_mul_le (u * 4294967296 + d) (b := y) (by omega)
 have h3 := Int.mul_nonneg hq h0
 exact Int.le_ediv_of_mul_le (by omega) (by omega)
theorem digit_nn (u d y : Int) (hp : 0 < y) (hu : 0 <= u) (hd : 0 <= d) : 0 <= (u * 4294967296 + d) / y :=
 Int.ediv_nonneg (by omega) (by omega)
theorem zbW (u d y : Int) (hp : 0 < y) : (u * 4294967296 + d) / y * y + (u * 4294967296 + d) % y = u * 4294967296 + d /\ 0 <= (u * 4294967296 + d) % y /\ (u * 4294967296 + d) % y < y := by
 refine ⟨?_, Int.emod_nonneg _ (by omega), Int.emod_lt_of_pos _ hp⟩
 have := Int.mul_ediv_add_emod (u * 4294967296 + d) y
 rw [Int.mul_comm] at this
 exact this
theorem ze6 (u d y : Int) (hp : 0 < y) (hy : y <= 18446744073709551615) :
  IntKind.u64.wrap (IntKind.u64.wrap (IntKind.u64.wrap (u * 4294967296) + d) - IntKind.u64.wrap ((u * 4294967296 + d) / y * y)) = (u * 4294967296 + d) % y := by
 have ⟨h1, h2, h3⟩ := zbW u d y hp
 simp only [IntKind.wrap_u64]
 omega
theorem zeK : ∀ f : Nat, bitLenAux f 0 = 0
 | 0 => rfl
 | f + 1 => by simp [bitLenAux]
theorem zcN : ∀ (f x : Nat), x < 2 ^ f -> bitLenAux f x <= f /\ x < 2 ^ bitLenAux f x /\ (x ≠ 0 -> 2 ^ bitLenAux f x <= 2 * x)
 | 0, x, h => by
  have : x = 0 := by simpa using h
  subst this
  simp [bitLenAux]
 | f + 1, x, h => by
  unfold bitLenAux
  by_cases h0 : x = 0
  ·simp [h0]
  ·rw [if_neg h0]
   have ⟨a, b, c⟩ := zcN f (x / 2) (by rw [Nat.pow_succ] at h; omega)
   by_cases h2 : x / 2 = 0
   ·have hx : x = 1 := by omega
    rw [h2, zeK]
    subst hx
    simp
   ·have c' := c h2
    generalize bitLenAux f (x / 2) = l at *
    have e : 2 ^ (1 + l) = 2 * 2 ^ l := by rw [Nat.add_comm, Nat.pow_succ, Nat.mul_comm]
    rw [e]
    exact ⟨by omega, by omega, fun _ => by omega⟩
theorem zed (x : Nat) (h0 : x ≠ 0) (h : x < 2 ^ 64) : bitLen x <= 64 /\ 1 <= bitLen x /\ x < 2 ^ bitLen x /\ 2 ^ bitLen x <= 2 * x := by
 have ⟨a, b, c⟩ := zcN 64 x h
 have c := c h0
 unfold bitLen
 refine ⟨a, ?_, b, c⟩
 by_cases e : bitLenAux 64 x = 0
 ·rw [e] at b; simp at b; exact absurd b h0
 ·omega
theorem and_mask (a : Int) (h0 : 0 <= a) (h1 : a <= 18446744073709551615) : bits .and .u64 a 4294967295 = a % 4294967296 := by
 obtain ⟨n, rfl⟩ := Int.eq_ofNat_of_zero_le h0
 have h := bits_and_u64_nat n 4294967295 (by omega) (by omega)
 have e : n &&& 4294967295 = n % 4294967296 := Nat.and_two_pow_sub_one_eq_mod n 32
 rw [e] at h
 exact h
theorem shift_up (n : Nat) (h0 : n ≠ 0) (h : n < 2 ^ 64) : ∃ P W : Nat, 2 ^ (64 - bitLen n) = P /\ 2 ^ bitLen n = W /\ 1 <= P /\ 2 <= W /\ P * W = 18446744073709551616 /\ 9223372036854775808 <= n * P /\ n * P < 18446744073709551616 := by
 have ⟨a, b, c, d⟩ := zed n h0 h
 refine ⟨_, _, rfl, rfl, Nat.one_le_two_pow, ?_, ?_, ?_, ?_⟩
 ·have := Nat.pow_le_pow_right (n := 2) (by omega) b; simpa using this
 ·rw [<- Nat.pow_add, show 64 - bitLen n + bitLen n = 64 by omega]
 ·have e : 2 ^ (64 - bitLen n) * 2 ^ bitLen n = 18446744073709551616 := by rw [<- Nat.pow_add, show 64 - bitLen n + bitLen n = 64 by omega]
  have := Nat.mul_le_mul_right (2 ^ (64 - bitLen n)) d
  rw [Nat.mul_comm (2 ^ bitLen n), e, Nat.mul_assoc] at this
  omega
 ·have e : 2 ^ (64 - bitLen n) * 2 ^ bitLen n = 18446744073709551616 := by rw [<- Nat.pow_add, show 64 - bitLen n + bitLen n = 64 by omega]
  have := Nat.mul_lt_mul_of_pos_right c (k := 2 ^ (64 - bitLen n)) Nat.one_le_two_pow
  rw [Nat.mul_comm (2 ^ bitLen n), e] at this
  exact this
theorem or_join (a b P k : Nat) (hP : 2 ^ k = P) (hb : b < P) (h : a * P + b < 18446744073709551616) : bits .or .u64 ((a * P : Nat) : Int) (b : Int) = ((a * P + b : Nat) : Int) := by
 have h1 := bits_or_u64_nat (a * P) b (by omega) (by omega)
 rw [h1]
 have e := Nat.two_pow_add_eq_or_of_lt (i := k) (b := b) (by rw [hP]; exact hb) a
 rw [hP, Nat.mul_comm] at e
 rw [e]
theorem wrap_in (a : Int) (h0 : 0 <= a) (h1 : a < 18446744073709551616) : IntKind.u64.wrap a = a := by rw [IntKind.wrap_u64]; omega
theorem div_prep (hi lo y s : Int) (h0 : 0 <= hi) (h1 : hi < y) (h2 : 0 <= lo) (h3 : lo <= 18446744073709551615) (h4 : y <= 18446744073709551615)
  (hs : 64 - (bitLen y.toNat : Int) = s) :
  ∃ P Y y1 y0 U v1 v0 : Int, 0 <= s /\ s <= 63 /\ 2 ^ s.toNat = P /\ 1 <= P /\ IntKind.u64.wrap (y * 2 ^ s.toNat) = Y /\ Y / 4294967296 = y1 /\ bits .and .u64 Y 4294967295 = y0 /\
   bits .or .u64 (IntKind.u64.wrap (hi * 2 ^ s.toNat)) (lo / 2 ^ (64 - s).toNat) = U /\
   IntKind.u64.wrap (lo * 2 ^ s.toNat) / 4294967296 = v1 /\ bits .and .u64 (IntKind.u64.wrap (lo * 2 ^ s.toNat)) 4294967295 = v0 /\
   Y = y1 * 4294967296 + y0 /\ 2147483648 <= y1 /\ y1 <= 4294967295 /\ 0 <= y0 /\ y0 <= 4294967295 /\ 0 <= U /\ U < Y /\ 0 <= v1 /\ v1 <= 4294967295 /\ 0 <= v0 /\ v0 <= 4294967295 /\
   Y = y * P /\ (U * 4294967296 + v1) * 4294967296 + v0 = (hi * 18446744073709551616 + lo) * P := by
 obtain ⟨H, rfl⟩ := Int.eq_ofNat_of_zero_le h0
 obtain ⟨L, rfl⟩ := Int.eq_ofNat_of_zero_le h2
 obtain ⟨n, rfl⟩ := Int.eq_ofNat_of_zero_le (a := y) (by omega)
 have ⟨a, b, _, _⟩ := zed n (by omega) (by omega)
 have ⟨P, W, eP, eW, hP, hW, hPW, hlo, hhi⟩ := shift_up n (by omega) (by omega)
 simp only [Int.toNat_natCast] at hs
 subst hs
 have t1 : (64 - (bitLen n : Int)).toNat = 64 - bitLen n := by omega
 have t2 : (64 - (64 - (bitLen n : Int))).toNat = bitLen n := by omega
 have c1 : (2 : Int) ^ (64 - bitLen n) = (P : Int) := by rw [<- eP]; simp [Int.natCast_pow]
 have c2 : (2 : Int) ^ bitLen n = (W : Int) := by rw [<- eW]; simp [Int.natCast_pow]
 rw [t1, t2, c1, c2]
 -- the high part shifted up stays below the divisor shifted up
 have hH : H * P + P <= n * P := by
  have := Nat.mul_le_mul_right P (show H + 1 <= n by omega)
  rw [Nat.add_mul] at this
  omega
 have hdiv : L / W < P := by
  rw [Nat.div_lt_iff_lt_mul (by omega), hPW]
  omega
 have eL : L = W * (L / W) + L % W := (Nat.div_add_mod L W).symm
 have hm : L % W < W := Nat.mod_lt _ (by omega)
 have eLP : L * P = 18446744073709551616 * (L / W) + L % W * P := by
  have : L * P = (W * (L / W) + L % W) * P := by rw [<- eL]
  rw [this, Nat.add_mul, Nat.mul_right_comm, Nat.mul_comm W P, hPW]
 have hlow : L % W * P < 18446744073709551616 := by
  have := Nat.mul_lt_mul_of_pos_right hm (k := P) (by omega)
  rw [Nat.mul_comm W P, hPW] at this
  exact this
 have w1 : IntKind.u64.wrap ((n : Int) * (P : Int)) = ((n * P : Nat) : Int) := by
  rw [<- Int.natCast_mul]; exact wrap_in _ (by omega) (by omega)
 have w2 : IntKind.u64.wrap ((H : Int) * (P : Int)) = ((H * P : Nat) : Int) := by
  rw [<- Int.natCast_mul]; exact wrap_in _ (by omega) (by omega)
 have w3 : IntKind.u64.wrap ((L : Int) * (P : Int)) = ((L % W * P : Nat) : Int) := by
  rw [<- Int.natCast_mul, IntKind.wrap_u64, eLP]
  omega
 have w4 : (L : Int) / (W : Int) = ((L / W : Nat) : Int) := (Int.natCast_ediv L W).symm
 rw [w1, w2, w3, w4, or_join H (L / W) P (64 - bitLen n) eP hdiv (by omega)]
 refine ⟨P, _, _, _, _, _, _, by omega, by omega, rfl, by omega, rfl, rfl, rfl, rfl, rfl, rfl, ?_⟩
 rw [and_mask _ (by omega) (by omega), and_mask _ (by omega) (by omega)]
 refine ⟨by omega, by omega, by omega, by omega, by omega, by omega, by omega, by omega, by omega, by omega, by omega, by rw [Int.natCast_mul], ?_⟩
 have e1 : ((H * P + L / W : Nat) : Int) * 4294967296 * 4294967296 = ((H * P + L / W : Nat) : Int) * 18446744073709551616 := by omega
 have e2 : ((H : Int) * 18446744073709551616 + (L : Int)) * (P : Int) = ((H * P : Nat) : Int) * 18446744073709551616 + ((L * P : Nat) : Int) := by
  rw [Int.add_mul, Int.natCast_mul, Int.natCast_mul, Int.mul_right_comm]
 rw [e2, eLP]
 generalize L % W * P = z at *
 generalize L / W = q at *
 generalize H * P = x at *
 omega
theorem div_end (hi lo y P Y U v1 v0 : Int) (hy : 0 < y) (hP : 1 <= P) (hY : Y = y * P)
  (e : (U * 4294967296 + v1) * 4294967296 + v0 = (hi * 18446744073709551616 + lo) * P) :
  (U * 4294967296 + v1) / Y * 4294967296 + ((U * 4294967296 + v1) % Y * 4294967296 + v0) / Y = (hi * 18446744073709551616 + lo) / y /\
  ((U * 4294967296 + v1) % Y * 4294967296 + v0) % Y / P = (hi * 18446744073709551616 + lo) % y := by
 have hY0 : 0 < Y := by rw [hY]; exact Int.mul_pos hy (by omega)
 have ⟨a1, a2, a3⟩ := zbW U v1 Y hY0
 generalize (U * 4294967296 + v1) / Y = q1 at *
 generalize (U * 4294967296 + v1) % Y = r1 at *
 have ⟨b1, b2, b3⟩ := zbW r1 v0 Y hY0
 generalize (r1 * 4294967296 + v0) / Y = q0 at *
 generalize (r1 * 4294967296 + v0) % Y = r0 at *
 generalize hi * 18446744073709551616 + lo = N at *
 have f : (q1 * 4294967296 + q0) * Y + r0 = N * P := by
  rw [<- e, <- a1, Int.add_mul (q1 * 4294967296), Int.mul_right_comm q1]
  omega
 have hq : N * P / Y = q1 * 4294967296 + q0 := by
  rw [<- f, Int.add_comm, Int.add_mul_ediv_right _ _ (by omega), Int.ediv_eq_zero_of_lt b2 b3]
  omega
 have hr : N * P % Y = r0 := by
  rw [<- f, Int.add_comm, Int.add_mul_emod_self_right, Int.emod_eq_of_lt b2 b3]
 constructor
 ·rw [<- hq, hY, Int.mul_ediv_mul_of_pos_left _ _ (by omega)]
 ·have : N * P % (y * P) = N % y * P := by
   rw [Int.mul_comm N, Int.mul_comm y, Int.mul_emod_mul_of_pos _ _ (by omega), Int.mul_comm]
  rw [<- hr, hY, this, Int.mul_ediv_cancel _ (by omega)]
end
end Go.Proofs.YtlnmjbbpenhdbaaGreat
