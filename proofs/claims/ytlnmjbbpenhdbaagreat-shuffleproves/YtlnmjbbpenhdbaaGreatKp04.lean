/-
  What the proof needs, part 4.
-/
import Derived.Test.YtlnmjbbpenhdbaaGreatKp02
import Derived.Test.YtlnmjbbpenhdbaaGreatKp03
import Derived.Test.YtlnmjbbpenhdbaaGreatKp01
import Derived.Carry
import Derived.Deep.OwnRows
import Derived.Deep.Upon
import Derived.Deep.RegionHeld3
import Derived.Deep.WholeRow
import Derived.WalkSpells
namespace Go.Proofs.YtlnmjbbpenhdbaaGreat
open Tryz
open Tryz renaming underlying1 → U1, underlying25 → U25, underlying69 → U69
set_option linter.unusedSimpArgs false
set_option linter.unusedVariables false
set_option maxRecDepth 100000
set_option maxHeartbeats 32000000
section
open Go.RowKit
theorem div_high (hi lo y : Int) (w : World) (h0 : 1 <= hi) (h1 : hi < y) (h2 : 0 <= lo) (h3 : lo <= 18446744073709551615) (h4 : y <= 18446744073709551615) :
  Calls prog 111 #[.int .u64 hi, .int .u64 lo, .int .u64 y] w fun e w' => e = .returned (.tuple #[.int .u64 ((hi * 18446744073709551616 + lo) / y), .int .u64 ((hi * 18446744073709551616 + lo) % y)]) /\ w' = w := by
 generalize hs : (64 - (Lib.bitLen y.toNat : Int)) = s
 obtain ⟨P, Y, y1, y0, U, v1, v0, s0, s1, eP, hP, eY, eY1, eY0, eU, eV1, eV0, hY, a1, a2, a3, a4, a5, a6, a7, a8, a9, a10, hYP, hN⟩ := div_prep hi lo y s (by omega) h1 h2 h3 h4 hs
 have HE : Hid ((64 - (Lib.bitLen y.toNat : Int)) = s) := hs
 have HP : Hid (2 ^ s.toNat = P) := eP
 have HY : Hid (Y = y1 * 4294967296 + y0) := hY
 have HYP : Hid (Y = y * P) := hYP
 have HN : Hid ((U * 4294967296 + v1) * 4294967296 + v0 = (hi * 18446744073709551616 + lo) * P) := hN
 have q0 := Int.ediv_nonneg a5 (show 0 <= y1 by omega)
 have hY2 : Y <= 18446744073709551615 := by omega
 have hp : 0 < Y := by omega
 have qm1 : 0 <= U / y1 * y1 := Int.mul_nonneg q0 (by omega)
 have qm2 : U / y1 * y1 <= U := Int.ediv_mul_le _ (by omega)
 have qm3 : U / y1 <= U := Int.ediv_le_self _ a5
 have qm4 : U - U / y1 * y1 < y1 := by have := Int.emod_lt_of_pos U (show 0 < y1 by omega); rw [Int.emod_def, Int.mul_comm] at this; exact this
 clear eP hY hYP hN
 have E : Hid (IntKind.u64.wrap (y * 2 ^ s.toNat) = Y /\ Y / 4294967296 = y1 /\ bits .and .u64 Y 4294967295 = y0 /\
   bits .or .u64 (IntKind.u64.wrap (hi * 2 ^ s.toNat)) (lo / 2 ^ (64 - s).toNat) = U /\
   IntKind.u64.wrap (lo * 2 ^ s.toNat) / 4294967296 = v1 /\ bits .and .u64 (IntKind.u64.wrap (lo * 2 ^ s.toNat)) 4294967295 = v0) := ⟨eY, eY1, eY0, eU, eV1, eV0⟩
 clear eY eY1 eY0 eU eV1 eV0
 go_enter func111, ntmps111
 go_upto_region 15 with (go_at_call 141; refine (Tryz.bits_LeadingZeros64 _ _ (by omega) (by omega)).mono ?_; rintro e w' ⟨rfl, rfl⟩)
 obtain ⟨eY, eY1, eY0, eU, eV1, eV0⟩ := E.out
 simp only [eY, eY1, eY0, eU, eV1, eV0]
 clear eY eY1 eY0 eU eV1 eV0 E hs
 have ⟨Q1, eQ1⟩ : ∃ Q1, (U * 4294967296 + v1) / Y = Q1 := ⟨_, rfl⟩
 have ⟨R1, eR1⟩ : ∃ R1, (U * 4294967296 + v1) % Y = R1 := ⟨_, rfl⟩
 have b1 : 0 <= Q1 := by rw [<- eQ1]; exact digit_nn U v1 Y hp a5 a7
 have b2 : Q1 <= 4294967295 := by rw [<- eQ1]; exact digit_lt U v1 Y hp a6 a8
 have b3 : Q1 <= U / y1 := by rw [<- eQ1]; exact zex U v1 Y y1 y0 HY.out (by omega) a3 a8 a5 a7
 have G : Hid (∀ q r : Int, q * y1 + r = U -> 4294967296 * r + v1 < q * y0 -> Q1 + 1 <= q) := fun q r h h' => eQ1 ▸ digit_gt U v1 Y y1 y0 q r HY.out hp h h'
 have L : Hid (∀ q r : Int, q * y1 + r = U -> q * y0 <= 4294967296 * r + v1 -> q <= Q1) := fun q r h h' => eQ1 ▸ digit_le U v1 Y y1 y0 q r HY.out hp h h'
 have K : Hid (∀ q r : Int, 0 <= q -> q * y1 + r = U -> 4294967296 <= r -> q <= Q1) := fun q r h0 h h' => eQ1 ▸ digit_brk U v1 Y y1 y0 q r HY.out (by omega) a3 a4 a7 h0 a6 h h'
 have HQ : Hid ((U * 4294967296 + v1) / Y = Q1) := eQ1
 clear eQ1
 go_upto_block 0 with fail
 go_cut [15, 16] (fun q r wx => q = .int .u64 Q1 /\ (∃ ri : Int, r = .int .u64 ri) /\ w' = wx)
 case first =>
  go_wp2_with fail
  go_loop [15, 16] (fun q r => ∃ qi ri : Int, q = .int .u64 qi /\ r = .int .u64 ri /\ qi * y1 + ri = U /\ Q1 <= qi /\ qi <= U /\ 0 <= ri /\ ri <= 4294967295) (fun q _ => (intOf q).toNat)
  case atStart => exact ⟨_, _, rfl, rfl, by omega, by omega, by omega, by omega, by omega⟩
  case round =>
   obtain ⟨qi, ri, rfl, rfl, hu, hQ, hqU, hr0, hr1⟩ := hrel
   have HU : Hid (qi * y1 + ri = U) := hu
   have HU' : Hid ((qi - 1) * y1 + (ri + y1) = U) := by show (qi - 1) * y1 + (ri + y1) = U; rw [Int.sub_mul]; omega
   clear hu
   by_cases hB : 4294967296 <= qi
   ·by_cases hb : 4294967296 <= ri + y1
    ·have hk := K.out _ _ (by omega) HU'.out hb
     have hk' : qi - 1 = Q1 := by omega
     have HK : Hid (qi - 1 = Q1) := hk'
     clear hk hk'
     go_wp2
     go_meet
     case rel => exact ⟨by rw [HK.out], ⟨_, rfl⟩, rfl⟩
    ·go_wp2
     go_round
     case rel => exact ⟨_, _, rfl, rfl, HU'.out, by omega, by omega, by omega, by omega⟩
     case measure => simp [intOf]; omega
   ·have pb := prod_bd qi y0 4294967295 4294967295 (by omega) (by omega) a3 a4
    obtain ⟨pb1, pb2⟩ := pb
    by_cases hc : 4294967296 * ri + v1 < qi * y0
    ·have hg := G.out _ _ HU.out hc
     by_cases hb : 4294967296 <= ri + y1
     ·have hk := K.out _ _ (by omega) HU'.out hb
      have hk' : qi - 1 = Q1 := by omega
      have HK : Hid (qi - 1 = Q1) := hk'
      clear hk hk'
      go_wp2
      go_meet
      case rel => exact ⟨by rw [HK.out], ⟨_, rfl⟩, rfl⟩
     ·go_wp2
      go_round
      case rel => exact ⟨_, _, rfl, rfl, HU'.out, by omega, by omega, by omega, by omega⟩
      case measure => simp [intOf]; omega
    ·have hl := L.out _ _ HU.out (by omega)
     have hk' : qi = Q1 := by omega
     have HK : Hid (qi = Q1) := hk'
     clear hl hk'
     go_wp2
     go_meet
     case rel => exact ⟨by rw [HK.out], ⟨_, rfl⟩, rfl⟩
 obtain ⟨rfl, ⟨ri, rfl⟩, rfl⟩ := hcut
 go_upto_region 22 with fail
 have eW := ze6 U v1 Y hp hY2
 rw [HQ.out, eR1] at eW
 simp only [eW]
 have c1 : 0 <= R1 := by rw [<- eR1]; exact (zbW U v1 Y hp).2.1
 have c2 : R1 < Y := by rw [<- eR1]; exact (zbW U v1 Y hp).2.2
 have HR : Hid ((U * 4294967296 + v1) % Y = R1) := eR1
 clear eW eR1 qm1 qm2 qm3 qm4 q0
 have q0 := Int.ediv_nonneg c1 (show 0 <= y1 by omega)
 have qm1 : 0 <= R1 / y1 * y1 := Int.mul_nonneg q0 (by omega)
 have qm2 : R1 / y1 * y1 <= R1 := Int.ediv_mul_le _ (by omega)
 have qm3 : R1 / y1 <= R1 := Int.ediv_le_self _ c1
 have qm4 : R1 - R1 / y1 * y1 < y1 := by have := Int.emod_lt_of_pos R1 (show 0 < y1 by omega); rw [Int.emod_def, Int.mul_comm] at this; exact this
 have ⟨Q0, eQ0⟩ : ∃ Q0, (R1 * 4294967296 + v0) / Y = Q0 := ⟨_, rfl⟩
 have b1z : 0 <= Q0 := by rw [<- eQ0]; exact digit_nn R1 v0 Y hp c1 a9
 have b2z : Q0 <= 4294967295 := by rw [<- eQ0]; exact digit_lt R1 v0 Y hp c2 a10
 have b3z : Q0 <= R1 / y1 := by rw [<- eQ0]; exact zex R1 v0 Y y1 y0 HY.out (by omega) a3 a10 c1 a9
 have Gz : Hid (∀ q r : Int, q * y1 + r = R1 -> 4294967296 * r + v0 < q * y0 -> Q0 + 1 <= q) := fun q r h h' => eQ0 ▸ digit_gt R1 v0 Y y1 y0 q r HY.out hp h h'
 have Lz : Hid (∀ q r : Int, q * y1 + r = R1 -> q * y0 <= 4294967296 * r + v0 -> q <= Q0) := fun q r h h' => eQ0 ▸ digit_le R1 v0 Y y1 y0 q r HY.out hp h h'
 have Kz : Hid (∀ q r : Int, 0 <= q -> q * y1 + r = R1 -> 4294967296 <= r -> q <= Q0) := fun q r h0 h h' => eQ0 ▸ digit_brk R1 v0 Y y1 y0 q r HY.out (by omega) a3 a4 a9 h0 c2 h h'
 have HQ0 : Hid ((R1 * 4294967296 + v0) / Y = Q0) := eQ0
 clear eQ0
 go_upto_block 2 with fail
 go_cut [18, 16] (fun q r wx => q = .int .u64 Q0 /\ (∃ ri : Int, r = .int .u64 ri) /\ w' = wx)
 case first =>
  go_wp2_with fail
  go_loop [18, 16] (fun q r => ∃ qi ri : Int, q = .int .u64 qi /\ r = .int .u64 ri /\ qi * y1 + ri = R1 /\ Q0 <= qi /\ qi <= R1 /\ 0 <= ri /\ ri <= 4294967295) (fun q _ => (intOf q).toNat)
  case atStart => exact ⟨_, _, rfl, rfl, by omega, by omega, by omega, by omega, by omega⟩
  case round =>
   obtain ⟨qi, ri, rfl, rfl, hu, hQ, hqU, hr0, hr1⟩ := hrel
   have HU : Hid (qi * y1 + ri = R1) := hu
   have HU' : Hid ((qi - 1) * y1 + (ri + y1) = R1) := by show (qi - 1) * y1 + (ri + y1) = R1; rw [Int.sub_mul]; omega
   clear hu
   by_cases hB : 4294967296 <= qi
   ·by_cases hb : 4294967296 <= ri + y1
    ·have hk := Kz.out _ _ (by omega) HU'.out hb
     have hk' : qi - 1 = Q0 := by omega
     have HK : Hid (qi - 1 = Q0) := hk'
     clear hk hk'
     go_wp2
     go_meet
     case rel => exact ⟨by rw [HK.out], ⟨_, rfl⟩, rfl⟩
    ·go_wp2
     go_round
     case rel => exact ⟨_, _, rfl, rfl, HU'.out, by omega, by omega, by omega, by omega⟩
     case measure => simp [intOf]; omega
   ·have pb := prod_bd qi y0 4294967295 4294967295 (by omega) (by omega) a3 a4
    obtain ⟨pb1, pb2⟩ := pb
    by_cases hc : 4294967296 * ri + v0 < qi * y0
    ·have hg := Gz.out _ _ HU.out hc
     by_cases hb : 4294967296 <= ri + y1
     ·have hk := Kz.out _ _ (by omega) HU'.out hb
      have hk' : qi - 1 = Q0 := by omega
      have HK : Hid (qi - 1 = Q0) := hk'
      clear hk hk'
      go_wp2
      go_meet
      case rel => exact ⟨by rw [HK.out], ⟨_, rfl⟩, rfl⟩
     ·go_wp2
      go_round
      case rel => exact ⟨_, _, rfl, rfl, HU'.out, by omega, by omega, by omega, by omega⟩
      case measure => simp [intOf]; omega
    ·have hl := Lz.out _ _ HU.out (by omega)
     have hk' : qi = Q0 := by omega
     have HK : Hid (qi = Q0) := hk'
     clear hl hk'
     go_wp2
     go_meet
     case rel => exact ⟨by rw [HK.out], ⟨_, rfl⟩, rfl⟩
 obtain ⟨rfl, ⟨ri, rfl⟩, rfl⟩ := hcut
 go_wp2
 have eW := ze6 R1 v0 Y hp hY2
 rw [HQ0.out] at eW
 have ⟨f1, f2⟩ := div_end hi lo y P Y U v1 v0 (by omega) hP HYP.out HN.out
 rw [HQ.out, HR.out, HQ0.out] at f1
 rw [HR.out] at f2
 simp only [eW, HP.out, f1, f2]
 go_ret2
 exact ⟨rfl, rfl⟩
theorem zaH {a b : Int} (h : a = b) : Ending.returned (.int .u64 a) = .returned (.int .u64 b) := by rw [h]
theorem zbT (m : Int) (w : World) (h1 : 2 <= m) (h2 : m <= 4611686018427387904) :
  Calls prog 109 #[.int .u64 m] w fun e w' => e = .returned (.bool true) /\ w = w' := by
 go_enter func109, ntmps109
 go_wp2
 go_ret
 exact ⟨rfl, rfl⟩
theorem zc7 (m : Int) (w : World) (h : m < 2 ∨ 4611686018427387904 < m) :
  Calls prog 109 #[.int .u64 m] w fun e w' => e = .returned (.bool false) /\ w = w' := by
 rcases h with h | h
 ·go_enter func109, ntmps109
  go_wp2
  go_ret
  exact ⟨rfl, rfl⟩
 ·have h' : 2 <= m := by omega
  have hd : decide (m <= 4611686018427387904) = false := by simpa using h
  go_enter func109, ntmps109
  go_wp2
  go_ret
  exact ⟨rfl, rfl⟩
theorem zdR (a b m : Int) (w : World) (a0 : 0 <= a) (a1 : a <= 18446744073709551615) (b0 : 0 <= b) (b1 : b <= 18446744073709551615) :
  Calls prog 77 #[.int .u64 a, .int .u64 b, .int .u64 m] w fun e w' => e = .returned (.int .u64 (addI a b m)) /\ ∃ n, w' = w.drewN n := by
 cases hm : okM m
 ·have hn := zcI hm
  go_enter func77, ntmps77
  go_wp2_with (go_at_call 109; refine (zc7 _ _ hn).mono ?_; rintro e w' ⟨rfl, rfl⟩)
  go_ret
  exact ⟨zaH (addI_no hm).symm, 0, rfl⟩
 ·have ⟨m0, m1⟩ := zaF hm
  obtain ⟨x0, x1⟩ := zaN a hm
  obtain ⟨y0, y1⟩ := zaN b hm
  have e := add_eq2 a b m (by omega)
  rw [<- za4 hm] at e
  have HE := hid e
  clear hm e
  by_cases hc : m <= a % m + b % m
  ·go_enter func77, ntmps77
   go_wp2_with (go_at_call 109; refine (zbT _ _ m0 m1).mono ?_; rintro e w' ⟨rfl, rfl⟩)
   go_quiet (fail)
   go_wp2
   go_ret
   exact ⟨zaH (by rw [<- HE.out, if_pos hc]), _, rfl⟩
  ·go_enter func77, ntmps77
   go_wp2_with (go_at_call 109; refine (zbT _ _ m0 m1).mono ?_; rintro e w' ⟨rfl, rfl⟩)
   go_quiet (fail)
   go_wp2
   go_ret
   exact ⟨zaH (by rw [<- HE.out, if_neg (by omega)]), _, rfl⟩
theorem sub_add (a b m : Int) : (a + (m - b % m)) % m = (a - b) % m := by
 rw [show a + (m - b % m) = (a - b % m) + m * 1 by omega, Int.add_mul_emod_self_left]
 exact cong_sub rfl (zak _ _)
theorem rsub_any (a b m : Int) (w : World) (a0 : 0 <= a) (a1 : a <= 18446744073709551615) (b0 : 0 <= b) (b1 : b <= 18446744073709551615) :
  Calls prog 78 #[.int .u64 a, .int .u64 b, .int .u64 m] w fun e w' => e = .returned (.int .u64 (subI a b m)) /\ ∃ n, w' = w.drewN n := by
 cases hm : okM m
 ·have hn := zcI hm
  go_enter func78, ntmps78
  go_wp2_with (go_at_call 109; refine (zc7 _ _ hn).mono ?_; rintro e w' ⟨rfl, rfl⟩)
  go_ret
  exact ⟨zaH (subI_no hm).symm, 0, rfl⟩
 ·have ⟨m0, m1⟩ := zaF hm
  obtain ⟨y0, y1⟩ := zaN b hm
  have HM := hid hm
  clear hm
  go_enter func78, ntmps78
  go_wp2_with (first | (go_at_call 109; refine (zbT _ _ m0 m1).mono ?_; rintro e w' ⟨rfl, rfl⟩) | (go_at_call 77; refine (zdR _ _ _ _ (by omega) (by omega) (by omega) (by omega)).mono ?_; rintro e w' ⟨rfl, n, rfl⟩))
  go_ret
  exact ⟨zaH (by rw [zb7 HM.out, za4 HM.out, sub_add]), _, rfl⟩
theorem mr_odd (s t n m s' t' e d : Int) (hn : n % 2 = 1) (hs : s' = s + t - m * e) (ht : t' = t + t - m * d) : (s' + t' * (n / 2)) % m = (s + t * n) % m := by
 subst hs ht
 have := mul_odd s t (n / 2) m e d
 rwa [show 2 * (n / 2) + 1 = n by omega] at this
theorem mr_even (s t n m t' d : Int) (hn : n % 2 = 0) (ht : t' = t + t - m * d) : (s + t' * (n / 2)) % m = (s + t * n) % m := by
 subst ht
 have := mul_even s t (n / 2) m d
 rwa [show 2 * (n / 2) = n by omega] at this
theorem zbo (a b m : Int) (w : World) (a0 : 0 <= a) (a1 : a <= 18446744073709551615) (b0 : 0 <= b) (b1 : b <= 18446744073709551615) :
  Calls prog 70 #[.int .u64 a, .int .u64 b, .int .u64 m] w fun e w' => e = .returned (.int .u64 (mulI a b m)) /\ ∃ n, w' = w.drewN n := by
 cases hm : okM m
 ·have hn := zcI hm
  go_enter func70, ntmps70
  go_wp2_with (go_at_call 109; refine (zc7 _ _ hn).mono ?_; rintro e w' ⟨rfl, rfl⟩)
  go_ret
  exact ⟨zaH (mulI_no hm).symm, 0, rfl⟩
 ·have ⟨m0, m1⟩ := zaF hm
  obtain ⟨x0, x1⟩ := zaN a hm
  obtain ⟨y0, y1⟩ := zaN b hm
  have HM := hid hm
  clear hm
  go_enter func70, ntmps70
  go_wp2_with (go_at_call 109; refine (zbT _ _ m0 m1).mono ?_; rintro e w' ⟨rfl, rfl⟩)
  go_loop [7, 8, 9] (fun sv tv nv => ∃ s t n : Int, sv = .int .u64 s /\ tv = .int .u64 t /\ nv = .int .u64 n /\ 0 <= s /\ s < m /\ 0 <= t /\ t < m /\ 0 <= n /\ n < m /\ (s + t * n) % m = a * b % m) (fun _ _ nv => (intOf nv).toNat)
  case atStart => exact ⟨0, _, _, rfl, rfl, rfl, by omega, by omega, x0, x1, y0, y1, by rw [Int.zero_add, <- Int.mul_emod]⟩
  case round =>
   obtain ⟨s, t, n, rfl, rfl, rfl, s0, s1, t0, t1, n0, n1, hr⟩ := hrel
   have HR := hid hr
   clear hr
   by_cases hn : 0 < n
   ·by_cases hp : n % 2 = 1
    ·by_cases h1 : m <= s + t
     ·by_cases h2 : m <= t + t
      ·go_wp2
       go_round
       case rel => exact ⟨_, _, _, rfl, rfl, rfl, by omega, by omega, by omega, by omega, by omega, by omega, by rw [mr_odd s t n m _ _ 1 1 hp (by omega) (by omega)]; exact HR.out⟩
       case measure => simp [intOf]; omega
      ·go_wp2
       go_round
       case rel => exact ⟨_, _, _, rfl, rfl, rfl, by omega, by omega, by omega, by omega, by omega, by omega, by rw [mr_odd s t n m _ _ 1 0 hp (by omega) (by omega)]; exact HR.out⟩
       case measure => simp [intOf]; omega
     ·by_cases h2 : m <= t + t
      ·go_wp2
       go_round
       case rel => exact ⟨_, _, _, rfl, rfl, rfl, by omega, by omega, by omega, by omega, by omega, by omega, by rw [mr_odd s t n m _ _ 0 1 hp (by omega) (by omega)]; exact HR.out⟩
       case measure => simp [intOf]; omega
      ·go_wp2
       go_round
       case rel => exact ⟨_, _, _, rfl, rfl, rfl, by omega, by omega, by omega, by omega, by omega, by omega, by rw [mr_odd s t n m _ _ 0 0 hp (by omega) (by omega)]; exact HR.out⟩
       case measure => simp [intOf]; omega
    ·have hp : n % 2 = 0 := by omega
     by_cases h2 : m <= t + t
     ·go_wp2
      go_round
      case rel => exact ⟨_, _, _, rfl, rfl, rfl, by omega, by omega, by omega, by omega, by omega, by omega, by rw [mr_even s t n m _ 1 hp (by omega)]; exact HR.out⟩
      case measure => simp [intOf]; omega
     ·go_wp2
      go_round
      case rel => exact ⟨_, _, _, rfl, rfl, rfl, by omega, by omega, by omega, by omega, by omega, by omega, by rw [mr_even s t n m _ 0 hp (by omega)]; exact HR.out⟩
      case measure => simp [intOf]; omega
   ·have hz : n = 0 := by omega
    have hk := HR.out
    rw [hz, Int.mul_zero, Int.add_zero, Int.emod_eq_of_lt s0 s1] at hk
    have HK := hid hk
    clear hk
    subst hz
    go_wp2
    go_ret
    exact ⟨zaH (by rw [zaw HM.out]; exact HK.out), 0, rfl⟩
theorem zcz (a e m : Int) (w : World) (a0 : 0 <= a) (a1 : a <= 18446744073709551615) (e0 : 0 <= e) (e1 : e <= 18446744073709551615) :
  Calls prog 105 #[.int .u64 a, .int .u64 e, .int .u64 m] w fun x w' => x = .returned (.int .u64 (powI a e m)) /\ ∃ n, w' = w.drewN n := by
 cases hm : okM m
 ·have hn := zcI hm
  go_enter func105, ntmps105
  go_wp2_with (go_at_call 109; refine (zc7 _ _ hn).mono ?_; rintro e w' ⟨rfl, rfl⟩)
  go_ret
  exact ⟨zaH (powI_no hm).symm, 0, rfl⟩
 ·have ⟨m0, m1⟩ := zaF hm
  obtain ⟨x0, x1⟩ := zaN a hm
  obtain ⟨E, rfl⟩ := Int.eq_ofNat_of_zero_le e0
  have HM := hid hm
  clear hm
  have HS : Hid (∀ x y : Int, mulI x y m = x * y % m /\ 0 <= mulI x y m /\ mulI x y m < m) := fun x y => by rw [zaw HM.out]; exact ⟨rfl, zaN _ HM.out⟩
  go_enter func105, ntmps105
  go_wp2_with (go_at_call 109; refine (zbT _ _ m0 m1).mono ?_; rintro e w' ⟨rfl, rfl⟩)
  go_loopw [1, 7, 8] (fun ev pv sv wx => ∃ (k : Nat) (p s : Int) (nd : Nat), ev = .int .u64 (k : Int) /\ pv = .int .u64 p /\ sv = .int .u64 s /\ k <= E /\ 0 <= p /\ p < m /\ 0 <= s /\ s < m /\ p * s ^ k % m = a ^ E % m /\ wx = w.drewN nd) (fun ev _ _ _ => (intOf ev).toNat)
  case atStart => exact ⟨E, 1, _, 0, rfl, rfl, rfl, Nat.le_refl _, by omega, by omega, x0, x1, by rw [Int.one_mul]; exact zaX (zak _ _) E, rfl⟩
  case round =>
   obtain ⟨k, p, s, nd, rfl, rfl, rfl, hk, p0, p1, s0, s1, hr, rfl⟩ := hrel
   have HR := hid hr
   clear hr
   obtain ⟨q1, q2, q3⟩ := HS.out p s
   obtain ⟨r1, r2, r3⟩ := HS.out s s
   have Q1 := hid q1
   have R1 := hid r1
   clear q1 r1
   by_cases hn : 0 < k
   ·by_cases hp : k % 2 = 1
    ·go_wp2_with (go_at_call 70; refine (zbo _ _ _ _ (by omega) (by omega) (by omega) (by omega)).mono ?_; rintro e w' ⟨rfl, n, rfl⟩)
     go_roundw
     case rel => exact ⟨k / 2, _, _, _, by go_num, rfl, rfl, by omega, q2, q3, r2, r3, by rw [Q1.out, R1.out, pow_odd, show 2 * (k / 2) + 1 = k by omega]; exact HR.out, rfl⟩
     case measure => simp [intOf]; omega
    ·have hp' : k % 2 = 0 := by omega
     go_wp2_with (go_at_call 70; refine (zbo _ _ _ _ (by omega) (by omega) (by omega) (by omega)).mono ?_; rintro e w' ⟨rfl, n, rfl⟩)
     go_roundw
     case rel => exact ⟨k / 2, _, _, _, by go_num, rfl, rfl, by omega, p0, p1, r2, r3, by rw [R1.out, pow_even, show 2 * (k / 2) = k by omega]; exact HR.out, rfl⟩
     case measure => simp [intOf]; omega
   ·have hz : k = 0 := by omega
    have hq := HR.out
    rw [hz, Int.pow_zero, Int.mul_one, Int.emod_eq_of_lt p0 p1] at hq
    have HK := hid hq
    clear hq q2 q3 r2 r3
    subst hz
    go_wp2
    go_ret
    exact ⟨zaH (by rw [zbF HM.out, Int.toNat_natCast]; rw [<- HK.out, Int.emod_eq_of_lt p0 p1]), _, rfl⟩
theorem zdC {a b : Int} {x y : Bool} (h : a = b) (h' : x = y) : Ending.returned (.tuple #[.int .u64 a, .bool x]) = .returned (.tuple #[.int .u64 b, .bool y]) := by rw [h, h']
theorem rinv_any (a m : Int) (w : World) (a0 : 0 <= a) (a1 : a <= 18446744073709551615) :
  Calls prog 124 #[.int .u64 a, .int .u64 m] w fun e w' => e = .returned (.tuple #[.int .u64 (invI a m), .bool (invB a m)]) /\ ∃ n, w' = w.drewN n := by
 cases hm : okM m
 ·have hn := zcI hm
  go_enter func124, ntmps124
  go_wp2_with (go_at_call 109; refine (zc7 _ _ hn).mono ?_; rintro e w' ⟨rfl, rfl⟩)
  go_ret2
  exact ⟨zdC (zei hm).2.symm (zei hm).1.symm, 0, rfl⟩
 ·have ⟨m0, m1⟩ := zaF hm
  obtain ⟨x0, x1⟩ := zaN a hm
  have HM := hid hm
  clear hm
  have HS : Hid (∀ x y : Int, subI x y m = (x - y) % m /\ 0 <= subI x y m /\ subI x y m < m) := fun x y => by rw [zb7 HM.out]; exact ⟨rfl, zaN _ HM.out⟩
  have HT : Hid (∀ x y : Int, mulI x y m = x * y % m /\ 0 <= mulI x y m /\ mulI x y m < m) := fun x y => by rw [zaw HM.out]; exact ⟨rfl, zaN _ HM.out⟩
  have HZ := hid (zdH a m)
  go_enter func124, ntmps124
  go_wp2_with (go_at_call 109; refine (zbT _ _ m0 m1).mono ?_; rintro e w' ⟨rfl, rfl⟩)
  go_loopw [6, 7, 8, 9] (fun xv rv gv fv wx => ∃ (r x f g : Int) (nd : Nat), rv = .int .u64 r /\ xv = .int .u64 x /\ fv = .int .u64 f /\ gv = .int .u64 g /\ 1 <= r /\ r <= m /\ 0 <= x /\ x <= m /\ 0 <= f /\ f < m /\ 0 <= g /\ g < m /\ Hid (m ∣ a * f - r) /\ Hid (m ∣ a * g - x) /\ Hid (∀ d : Int, d ∣ r -> d ∣ x -> d ∣ m /\ d ∣ a) /\ wx = w.drewN nd) (fun xv _ _ _ _ => (intOf xv).toNat)
  case atStart => exact ⟨_, _, 0, 1, 0, rfl, rfl, rfl, rfl, by omega, by omega, x0, by omega, by omega, by omega, by omega, by omega, HZ.out.1, HZ.out.2.1, HZ.out.2.2, rfl⟩
  case round =>
   obtain ⟨r, x, f, g, nd, rfl, rfl, rfl, rfl, r0, r1, y0, y1, f0, f1, g0, g1, D1, D2, D3, rfl⟩ := hrel
   by_cases hx : 0 < x
   ·have k0 := Int.ediv_nonneg (show 0 <= r by omega) y0
    have k1 : r / x <= r := Int.ediv_le_self _ (by omega)
    have k2 := Int.emod_nonneg r (show x ≠ 0 by omega)
    have k3 := Int.emod_lt_of_pos r hx
    have k4 : 0 <= r / x * x := Int.mul_nonneg k0 y0
    have k5 : r / x * x <= r := Int.ediv_mul_le _ (by omega)
    have e5 : r - r / x * x = r % x := by rw [Int.emod_def, Int.mul_comm]
    have E5 := hid e5
    clear e5
    obtain ⟨u1, u2, u3⟩ := HT.out (r / x) g
    obtain ⟨t1, t2, t3⟩ := HS.out f (mulI (r / x) g m)
    have U1 := hid u1
    have T1 := hid t1
    clear u1 t1
    go_wp2_with (first | (go_at_call 70; refine (zbo _ _ _ _ (by omega) (by omega) (by omega) (by omega)).mono ?_; rintro e w' ⟨rfl, n, rfl⟩) | (go_at_call 78; refine (rsub_any _ _ _ _ (by omega) (by omega) (by omega) (by omega)).mono ?_; rintro e w' ⟨rfl, n, rfl⟩))
    go_roundw
    case rel => exact ⟨_, _, _, _, _, rfl, by rw [E5.out], rfl, rfl, by omega, by omega, by omega, by omega, g0, g1, t2, t3, D2, by rw [T1.out, U1.out]; exact zeC D1.out D2.out, ze9 D3.out, rfl⟩
    case measure => simp [intOf]; rw [E5.out]; omega
   ·have hz : x = 0 := by omega
    subst hz
    by_cases h1 : r = 1
    ·subst h1
     have hy := ze1 HM.out f0 f1 D1.out
     have HY := hid hy
     have HF := hid (Int.emod_eq_of_lt f0 f1)
     clear hy
     go_wp2
     go_ret2
     exact ⟨zdC (by rw [HF.out]; exact HY.out.2.symm) HY.out.1.symm, _, rfl⟩
    ·have hy := euclid_no HM.out r0 h1 D3.out
     have HY := hid hy
     clear hy
     go_wp2
     go_ret2
     exact ⟨zdC HY.out.2.symm HY.out.1.symm, _, rfl⟩
theorem zck (m : Int) (w : World) (h1 : 2 <= m) (h2 : m <= 4611686018427387904) :
  Calls prog 107 #[.int .u64 m] w fun e w' => e = .returned (.bool true) /\ w = w' := by
 go_enter func107, ntmps107
 go_wp2
 go_ret
 exact ⟨rfl, rfl⟩
theorem zc5 (m : Int) (w : World) (h : m < 2 ∨ 4611686018427387904 < m) :
  Calls prog 107 #[.int .u64 m] w fun e w' => e = .returned (.bool false) /\ w = w' := by
 rcases h with h | h
 ·go_enter func107, ntmps107
  go_wp2
  go_ret
  exact ⟨rfl, rfl⟩
 ·have h' : 2 <= m := by omega
  have hd : decide (m <= 4611686018427387904) = false := by simpa using h
  go_enter func107, ntmps107
  go_wp2
  go_ret
  exact ⟨rfl, rfl⟩
theorem zeg (a b m : Int) (w : World) (a0 : 0 <= a) (a1 : a <= 18446744073709551615) (b0 : 0 <= b) (b1 : b <= 18446744073709551615) :
  Calls prog 71 #[.int .u64 a, .int .u64 b, .int .u64 m] w fun e w' => e = .returned (.int .u64 (addI a b m)) /\ ∃ n, w' = w.drewN n := by
 cases hm : okM m
 ·have hn := zcI hm
  go_enter func71, ntmps71
  go_wp2_with (go_at_call 107; refine (zc5 _ _ hn).mono ?_; rintro e w' ⟨rfl, rfl⟩)
  go_ret
  exact ⟨zaH (addI_no hm).symm, 0, rfl⟩
 ·have ⟨m0, m1⟩ := zaF hm
  have hx := zaN a hm
  have hy := zaN b hm
  obtain ⟨x0, x1⟩ := hx
  obtain ⟨y0, y1⟩ := hy
  have HM : Hid (okM m = true) := hm
  clear hm
  go_enter func71, ntmps71
  go_wp2_with (go_at_call 107; refine (zck _ _ m0 m1).mono ?_; rintro e w' ⟨rfl, rfl⟩)
  go_quiet (fail)
  go_wp2
  go_ret
  exact ⟨zaH (by rw [za4 HM.out, add_eq]), _, rfl⟩
theorem sub_any (a b m : Int) (w : World) (a0 : 0 <= a) (a1 : a <= 18446744073709551615) (b0 : 0 <= b) (b1 : b <= 18446744073709551615) :
  Calls prog 108 #[.int .u64 a, .int .u64 b, .int .u64 m] w fun e w' => e = .returned (.int .u64 (subI a b m)) /\ ∃ n, w' = w.drewN n := by
 cases hm : okM m
 ·have hn := zcI hm
  go_enter func108, ntmps108
  go_wp2_with (go_at_call 107; refine (zc5 _ _ hn).mono ?_; rintro e w' ⟨rfl, rfl⟩)
  go_ret
  exact ⟨zaH (subI_no hm).symm, 0, rfl⟩
 ·have ⟨m0, m1⟩ := zaF hm
  obtain ⟨x0, x1⟩ := zaN a hm
  obtain ⟨y0, y1⟩ := zaN b hm
  have HM : Hid (okM m = true) := hm
  clear hm
  go_enter func108, ntmps108
  go_wp2_with (go_at_call 107; refine (zck _ _ m0 m1).mono ?_; rintro e w' ⟨rfl, rfl⟩)
  go_quiet (fail)
  go_wp2
  go_ret
  exact ⟨zaH (by rw [zb7 HM.out, sub_eq]), _, rfl⟩
theorem div_any (hi lo y : Int) (w : World) (h0 : 0 <= hi) (h1 : hi < y) (h2 : 0 <= lo) (h3 : lo <= 18446744073709551615) (h4 : y <= 18446744073709551615) :
  Calls prog 111 #[.int .u64 hi, .int .u64 lo, .int .u64 y] w fun e w' => e = .returned (.tuple #[.int .u64 ((hi * 18446744073709551616 + lo) / y), .int .u64 ((hi * 18446744073709551616 + lo) % y)]) /\ ∃ n, w' = w.drewN n := by
 by_cases h : hi = 0
 ·subst h
  go_enter func111, ntmps111
  go_wp2
  go_quiet (fail)
  go_wp2
  simp only [Int.zero_mul, Int.zero_add]
  go_ret2
  exact ⟨rfl, _, rfl⟩
 ·refine (div_high hi lo y w (by omega) h1 h2 h3 h4).mono ?_
  rintro e w' ⟨rfl, rfl⟩
  exact ⟨rfl, 0, rfl⟩
theorem mul_two (x y m : Int) (x0 : 0 <= x) (x1 : x < m) (y0 : 0 <= y) (y1 : y < m) (hm : m <= 4611686018427387904) :
  ∃ H L : Int, x * y / 18446744073709551616 = H /\ x * y % 18446744073709551616 = L /\ H * 18446744073709551616 + L = x * y /\ 0 <= H /\ H < m /\ 0 <= L /\ L <= 18446744073709551615 := by
 have hp := prod_bd x y m 4611686018427387904 x0 (by omega) y0 (by omega)
 exact ⟨_, _, rfl, rfl, by omega, by omega, by omega, by omega, by omega⟩
theorem mul64_int (x y : Int) (x0 : 0 <= x) (x1 : x < 18446744073709551616) (y0 : 0 <= y) (y1 : y < 18446744073709551616) (w : World) :
  Calls prog 110 #[.int .u64 x, .int .u64 y] w fun e w' => e = .returned (.tuple #[.int .u64 (x * y / 18446744073709551616), .int .u64 (x * y % 18446744073709551616)]) /\ w' = w := by
 obtain ⟨a, rfl⟩ := Int.eq_ofNat_of_zero_le x0
 obtain ⟨b, rfl⟩ := Int.eq_ofNat_of_zero_le y0
 refine (Tryz.bits_Mul64 a b (by omega) (by omega) w).mono ?_
 rintro e w' ⟨rfl, rfl⟩
 refine ⟨?_, rfl⟩
 rw [Int.natCast_ediv, Int.natCast_emod, Int.natCast_mul]
 rfl
theorem zcU (a b m : Int) (w : World) (a0 : 0 <= a) (a1 : a <= 18446744073709551615) (b0 : 0 <= b) (b1 : b <= 18446744073709551615) :
  Calls prog 72 #[.int .u64 a, .int .u64 b, .int .u64 m] w fun e w' => e = .returned (.int .u64 (mulI a b m)) /\ ∃ n, w' = w.drewN n := by
 cases hm : okM m
 ·have hn := zcI hm
  go_enter func72, ntmps72
  go_wp2_with (go_at_call 107; refine (zc5 _ _ hn).mono ?_; rintro e w' ⟨rfl, rfl⟩)
  go_ret
  exact ⟨zaH (mulI_no hm).symm, 0, rfl⟩
 ·have ⟨m0, m1⟩ := zaF hm
  obtain ⟨x0, x1⟩ := zaN a hm
  obtain ⟨y0, y1⟩ := zaN b hm
  have ⟨H, L, eH, eL, eHL, h0, h1, h2, h3⟩ := mul_two (a % m) (b % m) m x0 x1 y0 y1 m1
  have c := mul64_int (a % m) (b % m) x0 (by omega) y0 (by omega)
  rw [eH, eL] at c
  have C : Hid (∀ w, Calls prog 110 #[.int .u64 (a % m), .int .u64 (b % m)] w fun e w' => e = .returned (.tuple #[.int .u64 H, .int .u64 L]) /\ w' = w) := c
  have HE : Hid (H * 18446744073709551616 + L = a % m * (b % m)) := eHL
  have HM : Hid (okM m = true) := hm
  clear hm c eH eL eHL
  go_enter func72, ntmps72
  go_wp2_with (go_at_call 107; refine (zck _ _ m0 m1).mono ?_; rintro e w' ⟨rfl, rfl⟩)
  go_quiet ((go_at_call 110; exact Calls.quiet_of_same (C.out _)))
  go_wp2_with (go_at_call 111; refine (div_any _ _ _ _ h0 h1 h2 h3 (by omega)).mono ?_; rintro e w' ⟨rfl, n, rfl⟩)
  go_ret
  exact ⟨zaH (by rw [HE.out, zaw HM.out, <- Int.mul_emod]), _, rfl⟩
theorem pow_any (a e m : Int) (w : World) (a0 : 0 <= a) (a1 : a <= 18446744073709551615) (e0 : 0 <= e) (e1 : e <= 18446744073709551615) :
  Calls prog 61 #[.int .u64 a, .int .u64 e, .int .u64 m] w fun x w' => x = .returned (.int .u64 (powI a e m)) /\ ∃ n, w' = w.drewN n := by
 cases hm : okM m
 ·have hn := zcI hm
  go_enter func61, ntmps61
  go_wp2_with (go_at_call 107; refine (zc5 _ _ hn).mono ?_; rintro e w' ⟨rfl, rfl⟩)
  go_ret
  exact ⟨zaH (powI_no hm).symm, 0, rfl⟩
 ·have ⟨m0, m1⟩ := zaF hm
  obtain ⟨x0, x1⟩ := zaN a hm
  obtain ⟨E, rfl⟩ := Int.eq_ofNat_of_zero_le e0
  have HM : Hid (okM m = true) := hm
  clear hm
  have HS : Hid (∀ x y : Int, mulI x y m = x * y % m /\ 0 <= mulI x y m /\ mulI x y m < m) := fun x y => by rw [zaw HM.out]; exact ⟨rfl, zaN _ HM.out⟩
  go_enter func61, ntmps61
  go_wp2_with (go_at_call 107; refine (zck _ _ m0 m1).mono ?_; rintro e w' ⟨rfl, rfl⟩)
  go_loopw [1, 7, 8] (fun ev pv sv wx => ∃ (k : Nat) (p s : Int) (nd : Nat), ev = .int .u64 (k : Int) /\ pv = .int .u64 p /\ sv = .int .u64 s /\ k <= E /\ 0 <= p /\ p < m /\ 0 <= s /\ s < m /\ p * s ^ k % m = a ^ E % m /\ wx = w.drewN nd) (fun ev _ _ _ => (intOf ev).toNat)
  case atStart => exact ⟨E, 1, _, 0, rfl, rfl, rfl, Nat.le_refl _, by omega, by omega, x0, x1, by rw [Int.one_mul]; exact zaX (zak _ _) E, rfl⟩
  case round =>
   obtain ⟨k, p, s, nd, rfl, rfl, rfl, hk, p0, p1, s0, s1, hr, rfl⟩ := hrel
   have HR : Hid (p * s ^ k % m = a ^ E % m) := hr
   clear hr
   obtain ⟨q1, q2, q3⟩ := HS.out p s
   obtain ⟨r1, r2, r3⟩ := HS.out s s
   have Q1 : Hid (mulI p s m = p * s % m) := q1
   have R1 : Hid (mulI s s m = s * s % m) := r1
   clear q1 r1
   by_cases hn : 0 < k
   ·by_cases hp : k % 2 = 1
    ·have hb : (bits .and .u64 (k : Int) 1 == 1) = true := by rw [and_one_u64 _ (by omega) (by omega)]; simp; omega
     go_wp2_with (go_at_call 72; refine (zcU _ _ _ _ (by omega) (by omega) (by omega) (by omega)).mono ?_; rintro e w' ⟨rfl, n, rfl⟩)
     go_roundw
     case rel => exact ⟨k / 2, _, _, _, by go_num, rfl, rfl, by omega, q2, q3, r2, r3, by rw [Q1.out, R1.out, pow_odd, show 2 * (k / 2) + 1 = k by omega]; exact HR.out, rfl⟩
     case measure => simp [intOf]; omega
    ·have hp' : k % 2 = 0 := by omega
     have hb : (bits .and .u64 (k : Int) 1 == 1) = false := by rw [and_one_u64 _ (by omega) (by omega)]; simp; omega
     go_wp2_with (go_at_call 72; refine (zcU _ _ _ _ (by omega) (by omega) (by omega) (by omega)).mono ?_; rintro e w' ⟨rfl, n, rfl⟩)
     go_roundw
     case rel => exact ⟨k / 2, _, _, _, by go_num, rfl, rfl, by omega, p0, p1, r2, r3, by rw [R1.out, pow_even, show 2 * (k / 2) = k by omega]; exact HR.out, rfl⟩
     case measure => simp [intOf]; omega
   ·have hz : k = 0 := by omega
    have hq := HR.out
    rw [hz, Int.pow_zero, Int.mul_one, Int.emod_eq_of_lt p0 p1] at hq
    have HK : Hid (p = a ^ E % m) := hq
    clear hq q2 q3 r2 r3
    subst hz
    go_wp2
    go_ret
    exact ⟨zaH (by rw [zbF HM.out, Int.toNat_natCast]; exact HK.out), _, rfl⟩
theorem parts_no {F : NI} {L i : Nat} {s : Int} (hi : i < L) (h : s % F i ≠ 0) : zaS F (L - i) i s = false := by
 rw [show L - i = (L - (i + 1)) + 1 by omega]
 simp [zaS, h]
theorem parts_yes {F : NI} {L i : Nat} {s : Int} (hi : i < L) (h : s % F i = 0) : zaS F (L - i) i s = zaS F (L - (i + 1)) (i + 1) (zbl (F i) s) := by
 rw [show L - i = (L - (i + 1)) + 1 by omega]
 simp [zaS, h]
theorem parts_end {F : NI} {L : Nat} {s : Int} : zaS F (L - L) L s = (s == 1) := by
 rw [Nat.sub_self]
 rfl
theorem stand_no1 {F : NI} {L : Nat} {N : NI} {k : Nat} (h : ¬ (1 <= L /\ L <= 16)) : zcK F L N k = false := no_of fun hc => h (zbq.1 hc).1
theorem stand_no2 {F : NI} {L : Nat} {N : NI} {k j : Nat} (hj : j < L) (h0 : 0 < j) (h : F j <= F (j - 1)) : zcK F L N k = false := no_of fun hc => by
 rcases ((zbq.1 hc).2 j hj).1 with h' | h' <;> omega
theorem stand_no3 {F : NI} {L : Nat} {N : NI} {k j : Nat} (hj : j < L) (h : zby N k (F j) = false) : zcK F L N k = false := no_of fun hc => by
 have := ((zbq.1 hc).2 j hj).2
 rw [h] at this
 cases this
theorem order_no2 {n A : Int} {F : NI} {L j : Nat} (hj : j < L) (h : powI A ((n - 1) / F j) n = 1) : zdL n A F L = false := no_of fun hc => (zeX.1 hc).2 j hj h
theorem quo_le {m f : Int} (hm : 0 <= m) (hf : 2 <= f) : 0 <= m / f /\ m / f <= m := ⟨Int.ediv_nonneg hm (by omega), Int.ediv_le_self _ hm⟩
theorem row_no {n A : Int} {F : NI} {L : Nat} {N : NI} {k : Nat} (h : ¬ (3 <= n /\ n <= 4611686018427387904)) : rowB n A F L N k = false := no_of fun hc => h ⟨(za9.1 hc).1, (za9.1 hc).2.1⟩
theorem row_eq {n A : Int} {F : NI} {L : Nat} {N : NI} {k : Nat} (h0 : 3 <= n) (h1 : n <= 4611686018427387904) : rowB n A F L N k = (zcK F L N k && zaS F L 0 (n - 1) && zdL n A F L) := by
 unfold rowB
 simp [h0, h1]
def zcJ (N : NI) (k : Nat) (x : Int) : Bool := (List.range k).any fun i => N i == x
theorem ze4 {N : NI} {k : Nat} {x : Int} : zcJ N k x = true ↔ ∃ i, i < k /\ N i = x := by
 unfold zcJ
 simp [List.any_eq_true]
theorem aheadB_no {N : NI} {k : Nat} {x : Int} (h : ∀ i, i < k -> N i ≠ x) : zcJ N k x = false := no_of fun hc => by
 obtain ⟨i, hi, he⟩ := ze4.1 hc
 exact h i hi he
theorem zb3 {N : NI} {k : Nat} {x : Int} : zby N k x = (x == 2 || zcJ N k x) := rfl
theorem zbv (x : Int) (k : Nat) (a : OA) (n cap : Nat) (N A : NI) (FA : Nat -> Option Addr) (L C : Nat -> Nat) (F : NN) (w : World) (hk : k <= n) (hn : n <= 80) (hin : RowsIn w a n N A FA L C F) :
  Calls prog 140 #[.slice a n cap, .int .i64 (k : Int), .int .u64 x] w fun e w' => e = .returned (.bool (zcJ N k x)) /\ w' = w := by
 have HI : Hid (RowsIn w a n N A FA L C F) := hin
 clear hin
 go_enter func140, ntmps140
 go_wp2_with fail
 go_loop [7] (fun iv => ∃ i : Nat, iv = .int .i64 (i : Int) /\ i <= k /\ Hid (∀ j, j < i -> N j ≠ x)) (fun iv => k - (intOf iv).toNat)
 case atStart => exact ⟨0, rfl, Nat.zero_le _, fun j hj => by omega⟩
 case round =>
  obtain ⟨i, rfl, hi, HJ⟩ := hrel
  by_cases hlt : i < k
  ·rcases HI.out with h0 | ⟨b, off, rfl, hb, hr⟩
   ·omega
   have c0 := (hr i (by omega)).c0
   clear hr
   by_cases hx : N i = x
   ·have HX : Hid (zcJ N k x = true) := ze4.2 ⟨i, hlt, hx⟩
    go_wp2
    go_ret
    exact ⟨zad HX.out.symm, rfl⟩
   ·go_wp2
    go_round
    case rel => exact ⟨i + 1, zab i, by omega, zav HJ.out hx⟩
    case measure => simp [intOf]; omega
  ·have HX : Hid (zcJ N k x = false) := aheadB_no fun j hj => HJ.out j (by omega)
   go_wp2
   go_ret
   exact ⟨zad HX.out.symm, rfl⟩
def Rises (F : NI) (i : Nat) : Prop := i = 0 ∨ F (i - 1) < F i
def Seen (n A : Int) (F N : NI) (k i : Nat) : Prop := ∀ j, j < i -> (Rises F j /\ zby N k (F j) = true) /\ powI A ((n - 1) / F j) n ≠ 1
theorem rrow_end {n A : Int} {F : NI} {L : Nat} {N : NI} {k : Nat} {s : Int} (h0 : 3 <= n) (h1 : n <= 4611686018427387904) (hL : 1 <= L /\ L <= 16) (hs : Seen n A F N k L) (hp : zaS F (L - L) L s = zaS F L 0 (n - 1)) :
  rowB n A F L N k = ((s == 1) && powI A (n - 1) n == 1) := by
 have e1 : zcK F L N k = true := zbq.2 ⟨hL, fun j hj => (hs j hj).1⟩
 have e2 : zdL n A F L = (powI A (n - 1) n == 1) := by
  unfold zdL
  have : ((List.range L).all fun j => !(powI A ((n - 1) / F j) n == 1)) = true := by
   simp only [List.all_eq_true, List.mem_range]
   intro j hj
   simpa using (hs j hj).2
  rw [this, Bool.and_true]
 rw [row_eq h0 h1, e1, e2, <- hp, parts_end, Bool.true_and]
theorem rrow_no1 {n A : Int} {F : NI} {L : Nat} {N : NI} {k i : Nat} (hN : ∀ i, i < k -> 3 <= N i) (hi : i < L) (h : F i < 2) : rowB n A F L N k = false := no_of fun hc => by
 have := stand_two (za9.1 hc).2.2.1 hN i hi
 omega
theorem rrow_no2 {n A : Int} {F : NI} {L : Nat} {N : NI} {k i : Nat} (hi : i + 1 < L) (h : F (i + 1) <= F i) : rowB n A F L N k = false := no_of fun hc => by
 have := (za9.1 hc).2.2.1
 rw [stand_no2 hi (by omega) (by simpa using h)] at this
 cases this
theorem rrow_no3 {n A : Int} {F : NI} {L : Nat} {N : NI} {k i : Nat} (hi : i < L) (h : zby N k (F i) = false) : rowB n A F L N k = false := no_of fun hc => by
 have := (za9.1 hc).2.2.1
 rw [stand_no3 hi h] at this
 cases this
theorem zdQ {n A : Int} {F : NI} {L : Nat} {N : NI} {k i : Nat} {s : Int} (hi : i < L) (hp : zaS F (L - i) i s = zaS F L 0 (n - 1)) (h : s % F i ≠ 0) : rowB n A F L N k = false := no_of fun hc => by
 have := (za9.1 hc).2.2.2.1
 rw [<- hp, parts_no hi h] at this
 cases this
theorem rrow_no5 {n A : Int} {F : NI} {L : Nat} {N : NI} {k i : Nat} (hi : i < L) (h : powI A ((n - 1) / F i) n = 1) : rowB n A F L N k = false := no_of fun hc => by
 have := (za9.1 hc).2.2.2.2
 rw [order_no2 hi h] at this
 cases this
theorem rrow_no6 {n A : Int} {F : NI} {L : Nat} {N : NI} {k : Nat} (h : ¬ (1 <= L /\ L <= 16)) : rowB n A F L N k = false := no_of fun hc => by
 have := (za9.1 hc).2.2.1
 rw [stand_no1 h] at this
 cases this
theorem rrow_any (k : Nat) (a : OA) (n cap : Nat) (N A : NI) (FA : Nat -> Option Addr) (Ls C : Nat -> Nat) (Fs : NN) (w : World) (hk : k < n) (hn : n <= 80) (hN : ∀ i, i < k -> 3 <= N i) (hin : RowsIn w a n N A FA Ls C Fs) :
  Calls prog 151 #[.slice a n cap, .int .i64 (k : Int)] w fun e w' => e = .returned (.bool (rowB (N k) (A k) (Fs k) (Ls k) N k)) /\ Below w.heap.size w w' := by
 have HI : Hid (RowsIn w a n N A FA Ls C Fs) := hin
 rcases hin with h0 | ⟨b, off, rfl, hb, hr⟩
 ·omega
 have r := hr k hk
 clear hr
 have HN : Hid (∀ i, i < k -> 3 <= N i) := hN
 clear hN
 obtain ⟨c0, c1, c2, n0, n1, a0, a1, l0, l1, hf⟩ := r
 have HF : Hid (FacsIn w (FA k) (Ls k) (Fs k)) := hf
 clear hf l1
 generalize hx : N k = x at *
 generalize hy : A k = y at *
 generalize hfa : FA k = fa at *
 generalize hL : Ls k = L at *
 generalize hC : C k = fc at *
 generalize hF : Fs k = F at *
 clear hx hy hfa hL hC hF
 by_cases h1 : x < 3
 ·have HR : Hid (rowB x y F L N k = false) := row_no (by omega)
  go_enter func151, ntmps151
  go_wp2_with fail
  go_ret
  exact ⟨zad HR.out.symm, zci (Below.refl _ _) _⟩
 by_cases h2 : 4611686018427387904 < x
 ·have HR : Hid (rowB x y F L N k = false) := row_no (by omega)
  go_enter func151, ntmps151
  go_wp2_with fail
  go_ret
  exact ⟨zad HR.out.symm, zci (Below.refl _ _) _⟩
 by_cases h3 : L < 1
 ·have HR : Hid (rowB x y F L N k = false) := rrow_no6 (by omega)
  go_enter func151, ntmps151
  go_wp2_with fail
  go_ret
  exact ⟨zad HR.out.symm, zci (Below.refl _ _) _⟩
 by_cases h4 : 16 < L
 ·have HR : Hid (rowB x y F L N k = false) := rrow_no6 (by omega)
  go_enter func151, ntmps151
  go_wp2_with fail
  go_ret
  exact ⟨zad HR.out.symm, zci (Below.refl _ _) _⟩
 go_enter func151, ntmps151
 go_wp2_with fail
 go_loopw [6, 7] (fun sv iv wx => ∃ (s : Int) (i : Nat), sv = .int .u64 s /\ iv = .int .i64 (i : Int) /\ i <= L /\ 1 <= s /\ s <= x - 1 /\ Below w.heap.size w wx /\ wx.cell? ⟨w.heap.size, 0, none⟩ = some (.int .u64 x) /\ wx.cell? ⟨w.heap.size, 1, none⟩ = some (.int .u64 y) /\ wx.cell? ⟨w.heap.size, 2, none⟩ = some (.slice fa L fc) /\ Hid (zaS F (L - i) i s = zaS F L 0 (x - 1)) /\ Hid (Seen x y F N k i)) (fun _ iv _ => L - (intOf iv).toNat)
 case atStart => exact ⟨x - 1, 0, rfl, rfl, Nat.zero_le _, by omega, by omega, zci (Below.refl _ _) _, by simp, by simp, by simp, rfl, fun j hj => by omega⟩
 case round =>
  obtain ⟨s, i, rfl, rfl, hi, s0, s1, hbel, b0, b1, b2, HP, HS⟩ := hrel
  clear c0 c1 c2
  by_cases hlt : i < L
  ·rcases HF.out.below hbel with h0 | ⟨fb, fo, rfl, hfb, hr⟩
   ·omega
   obtain ⟨hc, f0, f1⟩ := hr i hlt
   have HK : Hid (RowsIn wr (some ⟨b, off, none⟩) n N A FA Ls C Fs) := HI.out.below hbel
   go_upto_region 9 with fail
   go_cut [8, 80] from 36 to 98 (fun fv tv wx => fv = .int .u64 (F i) /\ ((tv = .bool true /\ Hid (rowB x y F L N k = false)) ∨ (tv = .bool false /\ 2 <= F i /\ Hid (Rises F i /\ zby N k (F i) = true) /\ Hid (s % F i = 0))) /\ wx = wr)
   case first =>
    by_cases hf2 : F i < 2
    ·have HR : Hid (rowB x y F L N k = false) := rrow_no1 HN.out hlt hf2
     clear hr
     go_wp2_with fail
     go_meet
     case rel => exact ⟨rfl, Or.inl ⟨rfl, HR⟩, rfl⟩
    by_cases hz : i <= 0
    ·clear hr
     have HO : Hid (Rises F i) := Or.inl (by omega)
     by_cases he : F i = 2
     ·have HM : Hid (zby N k (F i) = true) := zbY.2 (Or.inl he)
      have HT : Hid (F i = 2) := he
      have he1 : F i <= 2 := by omega
      clear he
      by_cases hq : s % F i = 0
      ·have HQ : Hid (s % F i = 0) := hq
       go_wp2_with fail
       go_meet
       case rel => exact ⟨(by first | rfl | rw [HT.out]), Or.inr ⟨(by first | rfl | (have hq' := hq; rw [HT.out] at hq'; simp [hq'])), by omega, ⟨HO.out, HM.out⟩, HQ⟩, rfl⟩
      ·have HR : Hid (rowB x y F L N k = false) := zdQ hlt HP.out hq
       go_wp2_with fail
       go_meet
       case rel => exact ⟨(by first | rfl | rw [HT.out]), Or.inl ⟨(by first | rfl | (have hq' := hq; rw [HT.out] at hq'; simp [hq'])), HR⟩, rfl⟩
     ·cases ha : zcJ N k (F i)
      ·have HR : Hid (rowB x y F L N k = false) := rrow_no3 hlt (by rw [zb3, ha, Bool.or_false]; simp [he])
       go_wp2_with (go_at_call 140; refine (zbv _ k _ _ _ N A FA Ls C Fs _ (by omega) hn HK.out).mono ?_; rintro e w' ⟨rfl, rfl⟩)
       go_meet
       case rel => exact ⟨rfl, Or.inl ⟨rfl, HR⟩, rfl⟩
      ·have HM : Hid (zby N k (F i) = true) := by rw [zb3, ha, Bool.or_true]; rfl
       by_cases hq : s % F i = 0
       ·have HQ : Hid (s % F i = 0) := hq
        go_wp2_with (go_at_call 140; refine (zbv _ k _ _ _ N A FA Ls C Fs _ (by omega) hn HK.out).mono ?_; rintro e w' ⟨rfl, rfl⟩)
        go_meet
        case rel => exact ⟨rfl, Or.inr ⟨by first | rfl | simp [hq], by omega, ⟨HO.out, HM.out⟩, HQ⟩, rfl⟩
       ·have HR : Hid (rowB x y F L N k = false) := zdQ hlt HP.out hq
        go_wp2_with (go_at_call 140; refine (zbv _ k _ _ _ N A FA Ls C Fs _ (by omega) hn HK.out).mono ?_; rintro e w' ⟨rfl, rfl⟩)
        go_meet
        case rel => exact ⟨rfl, Or.inl ⟨by first | rfl | simp [hq], HR⟩, rfl⟩
    ·obtain ⟨m, rfl⟩ : ∃ m, i = m + 1 := ⟨i - 1, by omega⟩
     obtain ⟨hd, g0, g1⟩ := hr m (by omega)
     clear hr
     by_cases hle : F (m + 1) <= F m
     ·have HR : Hid (rowB x y F L N k = false) := rrow_no2 hlt hle
      go_wp2_with fail
      go_meet
      case rel => exact ⟨rfl, Or.inl ⟨rfl, HR⟩, rfl⟩
     have HO : Hid (Rises F (m + 1)) := Or.inr (by simpa using hle)
     by_cases he : F (m + 1) = 2
     ·have HM : Hid (zby N k (F (m + 1)) = true) := zbY.2 (Or.inl he)
      have HT : Hid (F (m + 1) = 2) := he
      have he1 : F (m + 1) <= 2 := by omega
      clear he
      by_cases hq : s % F (m + 1) = 0
      ·have HQ : Hid (s % F (m + 1) = 0) := hq
       go_wp2_with fail
       go_meet
       case rel => exact ⟨(by first | rfl | rw [HT.out]), Or.inr ⟨(by first | rfl | (have hq' := hq; rw [HT.out] at hq'; simp [hq'])), by omega, ⟨HO.out, HM.out⟩, HQ⟩, rfl⟩
      ·have HR : Hid (rowB x y F L N k = false) := zdQ hlt HP.out hq
       go_wp2_with fail
       go_meet
       case rel => exact ⟨(by first | rfl | rw [HT.out]), Or.inl ⟨(by first | rfl | (have hq' := hq; rw [HT.out] at hq'; simp [hq'])), HR⟩, rfl⟩
     ·cases ha : zcJ N k (F (m + 1))
      ·have HR : Hid (rowB x y F L N k = false) := rrow_no3 hlt (by rw [zb3, ha, Bool.or_false]; simp [he])
       go_wp2_with (go_at_call 140; refine (zbv _ k _ _ _ N A FA Ls C Fs _ (by omega) hn HK.out).mono ?_; rintro e w' ⟨rfl, rfl⟩)
       go_meet
       case rel => exact ⟨rfl, Or.inl ⟨rfl, HR⟩, rfl⟩
      ·have HM : Hid (zby N k (F (m + 1)) = true) := by rw [zb3, ha, Bool.or_true]; rfl
       by_cases hq : s % F (m + 1) = 0
       ·have HQ : Hid (s % F (m + 1) = 0) := hq
        go_wp2_with (go_at_call 140; refine (zbv _ k _ _ _ N A FA Ls C Fs _ (by omega) hn HK.out).mono ?_; rintro e w' ⟨rfl, rfl⟩)
        go_meet
        case rel => exact ⟨rfl, Or.inr ⟨by first | rfl | simp [hq], by omega, ⟨HO.out, HM.out⟩, HQ⟩, rfl⟩
       ·have HR : Hid (rowB x y F L N k = false) := zdQ hlt HP.out hq
        go_wp2_with (go_at_call 140; refine (zbv _ k _ _ _ N A FA Ls C Fs _ (by omega) hn HK.out).mono ?_; rintro e w' ⟨rfl, rfl⟩)
        go_meet
        case rel => exact ⟨rfl, Or.inl ⟨by first | rfl | simp [hq], HR⟩, rfl⟩
   clear hr
   obtain ⟨rfl, hcut, rfl⟩ := hcut
   rcases hcut with ⟨rfl, HR⟩ | ⟨rfl, f2, HM, HQ⟩
   ·go_wp2_with fail
    go_ret
    exact ⟨zad HR.out.symm, hbel⟩
   have HY : Hid (zaS F (L - (i + 1)) (i + 1) (zbl (F i) s) = zaS F L 0 (x - 1)) := by rw [<- parts_yes hlt HQ.out]; exact HP.out
   obtain ⟨q0, q1⟩ := quo_le (show 0 <= x - 1 by omega) f2
   clear HP
   go_wp2_with fail
   go_loop [6] (fun tv => ∃ t : Int, tv = .int .u64 t /\ 1 <= t /\ t <= s /\ Hid (zbl (F i) t = zbl (F i) s)) (fun tv => (intOf tv).toNat)
   case atStart => exact ⟨s, rfl, s0, Int.le_refl _, rfl⟩
   case round =>
    obtain ⟨t, rfl, t0, t1, HT⟩ := hrel
    by_cases hz : t % F i = 0
    ·obtain ⟨u0, u1⟩ := quo_bd f2 t0 hz
     have HU : Hid (zbl (F i) (t / F i) = zbl (F i) s) := by rw [<- stripI_step f2 t0 hz]; exact HT.out
     go_wp2
     go_round
     case rel => exact ⟨_, rfl, u0, by omega, HU⟩
     case measure => simp [intOf]; omega
    ·have HU : Hid (zaS F (L - (i + 1)) (i + 1) t = zaS F L 0 (x - 1)) := by
      have e := HT.out
      rw [stripI_stop t0 hz] at e
      rw [e]
      exact HY.out
     by_cases hp : powI y ((x - 1) / F i) x = 1
     ·have HR : Hid (rowB x y F L N k = false) := rrow_no5 hlt hp
      go_wp2_with fail
      go_quiet ((go_at_call 105; exact Calls.quiet_of (zcz _ _ _ _ a0 a1 (by omega) (by omega))))
      go_wp2_with fail
      go_ret
      exact ⟨zad HR.out.symm, below_drewN hbel _⟩
     ·have HW : Hid (powI y ((x - 1) / F i) x ≠ 1) := hp
      go_wp2_with fail
      go_quiet ((go_at_call 105; exact Calls.quiet_of (zcz _ _ _ _ a0 a1 (by omega) (by omega))))
      go_wp2_with fail
      go_roundw
      case rel => exact ⟨t, i + 1, rfl, zab i, by omega, t0, by omega, below_drewN hbel _, by simpa using b0, by simpa using b1, by simpa using b2, HU, zav HS.out ⟨HM.out, HW.out⟩⟩
      case measure => simp [intOf]; omega
  ·have he : i = L := by omega
   subst he
   have HE : Hid (rowB x y F i N k = ((s == 1) && powI y (x - 1) x == 1)) := rrow_end (by omega) (by omega) (by omega) HS.out HP.out
   by_cases h5 : s = 1
   ·subst h5
    go_wp2_with (go_at_call 105; refine (zcz _ _ _ _ a0 a1 (by omega) (by omega)).mono ?_; rintro e w' ⟨rfl, nd, rfl⟩)
    go_ret
    exact ⟨zad HE.out.symm, below_drewN hbel _⟩
   ·have h5b : (s == 1) = false := by simp [h5]
    have HE' : Hid (rowB x y F i N k = false) := by rw [HE.out, h5b]; rfl
    go_wp2_with fail
    go_ret
    exact ⟨zad HE'.out.symm, hbel⟩
theorem zdp (a : OA) (n cap : Nat) (N A : NI) (FA : Nat -> Option Addr) (L C : Nat -> Nat) (F : NN) (w : World) (hn : n <= 80) (hin : RowsIn w a n N A FA L C F) :
  Calls prog 139 #[.slice a n cap] w fun e w' => e = .returned (.bool (zcG N A F L n)) /\ Below w.heap.size w w' := by
 have HI : Hid (RowsIn w a n N A FA L C F) := hin
 clear hin
 by_cases h64 : 64 < n
 ·have HN : Hid (zcG N A F L n = false) := no_of fun hc => by have := (zcv.1 hc).1; omega
  go_enter func139, ntmps139
  go_wp2_with fail
  go_ret
  exact ⟨zad HN.out.symm, Below.refl _ _⟩
 go_enter func139, ntmps139
 go_wp2_with fail
 go_loopw [3] (fun iv wx => ∃ i : Nat, iv = .int .i64 (i : Int) /\ i <= n /\ Below w.heap.size w wx /\ Hid (∀ j, j < i -> rowB (N j) (A j) (F j) (L j) N j = true)) (fun iv _ => n - (intOf iv).toNat)
 case atStart => exact ⟨0, rfl, Nat.zero_le _, Below.refl _ _, fun j hj => by omega⟩
 case round =>
  obtain ⟨i, rfl, hi, hbel, HJ⟩ := hrel
  by_cases hlt : i < n
  ·have HK : Hid (RowsIn wr a n N A FA L C F) := HI.out.below hbel
   cases hR : rowB (N i) (A i) (F i) (L i) N i
   ·have HN : Hid (zcG N A F L n = false) := no_of fun hc => by
     have := (zcv.1 hc).2 i hlt
     rw [hR] at this
     cases this
    go_wp2_with (go_at_call 151; refine (rrow_any i _ _ _ N A FA L C F _ hlt hn (zeI HJ.out) HK.out).mono ?_; rintro e w' ⟨rfl, hb2⟩)
    go_ret
    exact ⟨zad HN.out.symm, zeZ hbel hb2⟩
   ·have HM : Hid (rowB (N i) (A i) (F i) (L i) N i = true) := hR
    go_wp2_with (go_at_call 151; refine (rrow_any i _ _ _ N A FA L C F _ hlt hn (zeI HJ.out) HK.out).mono ?_; rintro e w' ⟨rfl, hb2⟩)
    go_roundw
    case rel => exact ⟨i + 1, zab i, by omega, zeZ hbel hb2, zav HJ.out HM.out⟩
    case measure => simp [intOf]; omega
  ·have he : i = n := by omega
   subst he
   have HN : Hid (zcG N A F L i = true) := zcv.2 ⟨by omega, HJ.out⟩
   go_wp2_with fail
   go_ret
   exact ⟨zad HN.out.symm, hbel⟩
theorem rproved_any (x : Int) (a : OA) (n cap : Nat) (N A : NI) (FA : Nat -> Option Addr) (L C : Nat -> Nat) (F : NN) (w : World) (hn : n <= 80) (hin : RowsIn w a n N A FA L C F) :
  Calls prog 101 #[.int .u64 x, .slice a n cap] w fun e w' => e = .returned (.bool (za7 N A F L n x)) /\ Below w.heap.size w w' := by
 have HI : Hid (RowsIn w a n N A FA L C F) := hin
 clear hin
 have HE : Hid (za7 N A F L n x = (zcG N A F L n && (x == 2 || zcJ N n x))) := rfl
 cases hh : zcG N A F L n
 ·go_enter func101, ntmps101
  go_wp2_with (go_at_call 139; refine (zdp _ _ _ N A FA L C F _ hn HI.out).mono ?_; rintro e w' ⟨rfl, hb⟩)
  go_ret
  exact ⟨zad (by rw [HE.out, hh]; rfl), hb⟩
 by_cases hx : x = 2
 ·subst hx
  go_enter func101, ntmps101
  go_wp2_with (go_at_call 139; refine (zdp _ _ _ N A FA L C F _ hn HI.out).mono ?_; rintro e w' ⟨rfl, hb⟩)
  go_ret
  exact ⟨zad (by rw [HE.out, hh]; rfl), hb⟩
 ·have hxb : (x == 2) = false := by simp [hx]
  go_enter func101, ntmps101
  go_wp2_with (first
   | (go_at_call 139; refine (zdp _ _ _ N A FA L C F _ hn HI.out).mono ?_; rintro e w' ⟨rfl, hb⟩)
   | (go_at_call 140; refine (zbv _ n _ _ _ N A FA L C F _ (Nat.le_refl _) hn (HI.out.below hb)).mono ?_; rintro e w' ⟨rfl, rfl⟩))
  go_ret
  exact ⟨zad (by rw [HE.out, hh, hxb]; rfl), hb⟩
structure Old (w w' : World) : Prop where
 os : w'.os = w.os
 output : w'.output = w.output
 size : w.heap.size <= w'.heap.size
 block : ∀ k, k < w.heap.size -> w'.heap[k]? = w.heap[k]?
theorem Old.refl (w : World) : Old w w := ⟨rfl, rfl, Nat.le_refl _, fun _ _ => rfl⟩
theorem Old.trans {a b c : World} (h : Old a b) (k : Old b c) : Old a c :=
 ⟨k.os.trans h.os, k.output.trans h.output, Nat.le_trans h.size k.size, fun i hi => (k.block i (Nat.lt_of_lt_of_le hi h.size)).trans (h.block i hi)⟩
theorem Old.ofBelow {w w' : World} (h : Below w.heap.size w w') : Old w w' := ⟨h.os, h.output, h.size, h.block⟩
theorem Old.alloc {a w : World} (h : Old a w) (o : Obj) : Old a (w.alloc o) :=
 h.trans ⟨rfl, rfl, by simp, fun k hk => Below.heap_alloc _ _ _ hk⟩
theorem Old.drew {a w : World} (h : Old a w) : Old a w.drew := ⟨h.os, h.output, h.size, h.block⟩
theorem Old.drewN {a w : World} (h : Old a w) (n : Nat) : Old a (w.drewN n) := h.trans ⟨rfl, rfl, Nat.le_refl _, fun _ _ => rfl⟩
theorem Old.draws {a w w' : World} (h : Old a w) (hd : ∃ n, w' = w.drewN n) : Old a w' := by
 obtain ⟨n, rfl⟩ := hd
 exact h.drewN n
theorem Old.setCell {a w : World} (h : Old a w) {p : Addr} (hp : a.heap.size <= p.block) (u : Value) : Old a (w.setCell p u) :=
 ⟨h.os, h.output, by simpa [World.setCell] using h.size, fun k hk => (Below.heap_setCell _ _ _ _ (by omega)).trans (h.block k hk)⟩
theorem Old.cell {w w' : World} (h : Old w w') {p : Addr} (hp : p.block < w.heap.size) : w'.cell? p = w.cell? p := World.cell?_of_block (w := w) (h.block p.block hp)
theorem Old.cellOf {w w' : World} (h : Old w w') {p : Addr} {v : Value} (hc : w.cell? p = some v) : w'.cell? p = some v := (h.cell (World.block_lt_of_cell? _ _ hc)).trans hc
theorem Old.row {w w' : World} (h : Old w w') {b : Nat} {t : TypeId} {n : Nat} {f : Nat -> Value} (hr : w.rowIs b t n f) : w'.rowIs b t n f := hr.of_block (h.block b hr.lt)
theorem Old.frame {W w' : World} (h : Old W w') (may : MemPlace -> Prop) : W.keptBut w' may := by
 refine ⟨h.os, h.output, fun i hi => ?_⟩
 rw [h.block i hi]
 split <;> simp_all
theorem Old.same {W w' : World} (h : Old W w') {p : MemPlace} (hp : p.block < W.heap.size) : W.sameAt w' p := by
 cases p with
 | cell b o => exact World.cell?_of_block (w := W) (h.block b hp)
 | map b => exact h.block b hp
theorem Old.trod {H : Type} {enc : TypeId × Value -> H} {P : Program} {t : TypeId} (hl : laidOutB P = true) (hr : P.readableRec t = true) (hrow : t < P.types.size) {W W' : World} {v : Value} {d : DataW H} {ps : List MemPlace}
  (h : DataW.Trod enc P W 0 (fun _ => true) true t v d ps) (hb : Old W W') (hlt : ∀ x ∈ ps, x.block < W.heap.size) :
  DataW.Trod enc P W' 0 (fun b => decide (b < W.heap.size)) true t v d ps :=
 WideElems.Trod_stays hl hr hrow h (fun x hx => hb.same (hlt x hx)) (fun x hx => by simpa using hlt x hx)
theorem Old.upon {w W wx : World} {e : TypeId} {size : Nat} {ao : OA} {b off len cap : Nat} {olds : List Value} {v : Value} {m : Nat} {ks : List Value} {r : Nat} (h : Old w W) (hb : w.heap.size <= b) (hu : Upon W e size ao b off len cap olds wx v m ks r) : Old w wx := by
 refine ⟨hu.kept.1.trans h.os, hu.kept.2.1.trans h.output, Nat.le_trans h.size hu.kept.size, fun k hk => ?_⟩
 refine (hu.kept.block (Nat.lt_of_lt_of_le hk h.size) fun p hp => ?_).trans (h.block k hk)
 rintro rfl
 obtain ⟨j, _, rfl⟩ := hp
 simp [MemPlace.block] at hk
 omega
theorem row_upon {W wx : World} {e : TypeId} {size : Nat} {ao : OA} {b off len cap : Nat} {olds : List Value} {v : Value} {m : Nat} {ks : List Value} {r : Nat} (hu : Upon W e size ao b off len cap olds wx v m ks r) {b' : Nat} {t : TypeId} {n : Nat} {f : Nat -> Value} (hr : W.rowIs b' t n f) (hne : b' ≠ b) : wx.rowIs b' t n f := by
 refine hr.of_block (hu.kept.block hr.lt fun p hp => ?_)
 rintro rfl
 obtain ⟨j, _, rfl⟩ := hp
 exact hne rfl
abbrev gv (P Q G H : Int) (a : OA) (n cap : Nat) : Value := .agg #[.int .u64 P, .int .u64 Q, .int .u64 G, .int .u64 H, .slice a n cap]
theorem gcell {P Q G H : Int} {a : OA} {n cap : Nat} (w : World) (t : TypeId) (j : Nat) : (w.alloc (.cells #[.int .u64 P, .int .u64 Q, .int .u64 G, .int .u64 H, .slice a n cap] t)).cell? ⟨w.heap.size, j, none⟩ = (#[.int .u64 P, .int .u64 Q, .int .u64 G, .int .u64 H, .slice a n cap] : Array Value)[j]? := World.cell?_alloc_mark w _ t (0, 0) j
def inI (P Q x : Int) : Bool := decide (1 <= x) && decide (x < P) && (powI x Q P == 1)
theorem inI_iff {P Q x : Int} : inI P Q x = true ↔ 1 <= x /\ x < P /\ powI x Q P = 1 := by
 unfold inI
 simp [and_assoc]
theorem zdu (P Q G H x : Int) (a : OA) (n cap : Nat) (w : World) (q0 : 0 <= Q) (q1 : Q <= 18446744073709551615) (x1 : x <= 18446744073709551615) :
  Calls prog 55 #[gv P Q G H a n cap, .int .u64 x] w fun e w' => e = .returned (.bool (inI P Q x)) /\ Old w w' := by
 have HW : Hid (∀ o, Old w (w.alloc o)) := fun o => (Old.refl w).alloc o
 by_cases h1 : 1 <= x
 ·by_cases h2 : x < P
  ·have HC : Hid (∀ wx, Calls prog 105 #[.int .u64 x, .int .u64 Q, .int .u64 P] wx fun e w' => e = .returned (.int .u64 (powI x Q P)) /\ ∃ n, w' = wx.drewN n) := fun wx => zcz x Q P wx (by omega) x1 q0 q1
   have HE : Hid (inI P Q x = (powI x Q P == 1)) := by unfold Hid inI; simp [h1, h2]
   generalize powI x Q P = y at *
   go_enter func55, ntmps55
   go_wp2_with (go_at_call 105; refine (HC.out _).mono ?_; rintro e w1 ⟨rfl, k1, hw1⟩)
   go_ret
   refine ⟨by rw [HE.out]; rfl, ?_⟩
   first
    | exact (HW.out _).drewN _
    | (rw [hw1]; exact (HW.out _).drewN _)
  ·have HE : Hid (inI P Q x = false) := by unfold Hid inI; simp [h2]
   go_enter func55, ntmps55
   go_wp2_with fail
   go_ret
   exact ⟨by rw [HE.out]; rfl, HW.out _⟩
 ·have HE : Hid (inI P Q x = false) := by unfold Hid inI; simp [h1]
  go_enter func55, ntmps55
  go_wp2_with fail
  go_ret
  exact ⟨by rw [HE.out]; rfl, HW.out _⟩
def expI (P Q x e : Int) : Int := if Q < 2 then 0 else powI x (e % Q) P
theorem rexp_any (P Q G H x e : Int) (a : OA) (n cap : Nat) (w : World) (q1 : Q <= 18446744073709551615) (x0 : 0 <= x) (x1 : x <= 18446744073709551615) (e0 : 0 <= e) (e1 : e <= 18446744073709551615) :
  Calls prog 68 #[gv P Q G H a n cap, .int .u64 x, .int .u64 e] w fun r w' => r = .returned (.int .u64 (expI P Q x e)) /\ Old w w' := by
 have HW : Hid (∀ o, Old w (w.alloc o)) := fun o => (Old.refl w).alloc o
 by_cases h2 : Q < 2
 ·have HE : Hid (expI P Q x e = 0) := by unfold Hid expI; rw [if_pos h2]
  go_enter func68, ntmps68
  go_wp2_with fail
  go_ret
  exact ⟨by rw [HE.out]; rfl, HW.out _⟩
 ·have HE : Hid (expI P Q x e = powI x (e % Q) P) := by unfold Hid expI; rw [if_neg h2]
  have m0 : 0 <= e % Q := Int.emod_nonneg _ (by omega)
  have m1 : e % Q < Q := Int.emod_lt_of_pos _ (by omega)
  go_enter func68, ntmps68
  go_wp2_with fail
  go_quiet ((go_at_call 105; exact Calls.quiet_of (zcz x (e % Q) P _ x0 x1 m0 (by omega))))
  go_wp2_with fail
  go_ret
  exact ⟨by rw [HE.out]; rfl, (HW.out _).drewN _⟩
abbrev go (P Q G H : Int) (a : OA) (n cap : Nat) (t : TypeId) : Obj := .cells #[.int .u64 P, .int .u64 Q, .int .u64 G, .int .u64 H, .slice a n cap] t
def Beh (w : World) (P Q G H : Int) (a : OA) (n cap : Nat) (w' : World) : Prop := ∃ t, Old (w.alloc (go P Q G H a n cap t)) w'
theorem Beh.old {w w' : World} {P Q G H : Int} {a : OA} {n cap : Nat} (h : Beh w P Q G H a n cap w') : Old w w' := by
 obtain ⟨t, h⟩ := h
 exact ((Old.refl w).alloc _).trans h
theorem Beh.new (w : World) (P Q G H : Int) (a : OA) (n cap : Nat) (t : TypeId) : Beh w P Q G H a n cap (w.alloc (go P Q G H a n cap t)) := ⟨t, Old.refl _⟩
theorem Beh.then {w w1 w2 : World} {P Q G H : Int} {a : OA} {n cap : Nat} (h : Beh w P Q G H a n cap w1) (k : Old w1 w2) : Beh w P Q G H a n cap w2 := by
 obtain ⟨t, h⟩ := h
 exact ⟨t, h.trans k⟩
theorem Beh.cell {w w' : World} {P Q G H : Int} {a : OA} {n cap : Nat} (h : Beh w P Q G H a n cap w') {j : Nat} {v : Value} (hv : (#[.int .u64 P, .int .u64 Q, .int .u64 G, .int .u64 H, .slice a n cap] : Array Value)[j]? = some v) : w'.cell? ⟨w.heap.size, j, none⟩ = some v := by
 obtain ⟨t, h⟩ := h
 exact h.cellOf ((gcell w t j).trans hv)
theorem FacsIn.old {w w' : World} {a : OA} {len : Nat} {F : NI} (h : FacsIn w a len F) (hb : Old w w') : FacsIn w' a len F := by
 rcases h with h | ⟨b, off, ha, hl, hc⟩
 ·exact Or.inl h
 ·exact Or.inr ⟨b, off, ha, Nat.lt_of_lt_of_le hl hb.size, fun j hj => ⟨(hb.cell hl).trans (hc j hj).1, (hc j hj).2⟩⟩
theorem RowAt.old {w w' : World} {b off : Nat} {n A : Int} {FA : OA} {L C : Nat} {F : NI} (h : RowAt w b off n A FA L C F) (hl : b < w.heap.size) (hb : Old w w') : RowAt w' b off n A FA L C F where
 c0 := (hb.cell hl).trans h.c0
 c1 := (hb.cell hl).trans h.c1
 c2 := (hb.cell hl).trans h.c2
 n0 := h.n0
 n1 := h.n1
 a0 := h.a0
 a1 := h.a1
 l0 := h.l0
 l1 := h.l1
 facs := h.facs.old hb
theorem RowsIn.old {w w' : World} {a : OA} {n : Nat} {N A : NI} {FA : Nat -> Option Addr} {L C : Nat -> Nat} {F : NN} (h : RowsIn w a n N A FA L C F) (hb : Old w w') : RowsIn w' a n N A FA L C F := by
 rcases h with h | ⟨b, off, ha, hl, hc⟩
 ·exact Or.inl h
 ·exact Or.inr ⟨b, off, ha, Nat.lt_of_lt_of_le hl hb.size, fun i hi => (hc i hi).old hl hb⟩
def zcc (P Q G H : Int) (N A : NI) (F : NN) (L : Nat -> Nat) (n : Nat) : Bool :=
 decide (5 <= Q) && decide (Q < 2305843009213693952) && (P == 2 * Q + 1) && za7 N A F L n P && za7 N A F L n Q && inI P Q G && inI P Q H && !(G == 1) && !(H == 1) && !(G == H)
theorem rright_any (P Q G H : Int) (a : OA) (n cap : Nat) (N A : NI) (FA : Nat -> Option Addr) (L C : Nat -> Nat) (F : NN) (w : World) (hn : n <= 80) (hin : RowsIn w a n N A FA L C F)
  (q0 : 0 <= Q) (q1 : Q <= 18446744073709551615) (g1 : G <= 18446744073709551615) (h1 : H <= 18446744073709551615) :
  Calls prog 48 #[gv P Q G H a n cap] w fun e w' => e = .returned (.bool (zcc P Q G H N A F L n)) /\ Old w w' := by
 have HW : Hid (∀ t, Beh w P Q G H a n cap (w.alloc (go P Q G H a n cap t))) := fun t => Beh.new w P Q G H a n cap t
 have HR : Hid (∀ x wx, Beh w P Q G H a n cap wx -> Calls prog 101 #[.int .u64 x, .slice a n cap] wx fun e w' => e = .returned (.bool (za7 N A F L n x)) /\ Beh w P Q G H a n cap w') :=
  fun x wx hb => (rproved_any x a n cap N A FA L C F wx hn (hin.old hb.old)).mono fun e w' ⟨h, k⟩ => ⟨h, hb.then (Old.ofBelow k)⟩
 have HI : Hid (∀ x wx, x <= 18446744073709551615 -> Beh w P Q G H a n cap wx -> Calls prog 55 #[gv P Q G H a n cap, .int .u64 x] wx fun e w' => e = .returned (.bool (inI P Q x)) /\ Beh w P Q G H a n cap w') :=
  fun x wx hx hb => (zdu P Q G H x a n cap wx q0 q1 hx).mono fun e w' ⟨h, k⟩ => ⟨h, hb.then k⟩
 have HO : Hid (∀ w', Beh w P Q G H a n cap w' -> Old w w') := fun _ h => h.old
 have HF : Hid (∀ w', Beh w P Q G H a n cap w' -> G5 w' (w.heap.size) P Q G H (.slice a n cap)) :=
  fun _ h => ⟨h.cell rfl, h.cell rfl, h.cell rfl, h.cell rfl, h.cell rfl⟩
 clear hin hn
 have HE : Hid (zcc P Q G H N A F L n = (decide (5 <= Q) && decide (Q < 2305843009213693952) && (P == 2 * Q + 1) && za7 N A F L n P && za7 N A F L n Q && inI P Q G && inI P Q H && !(G == 1) && !(H == 1) && !(G == H))) := rfl
 generalize zcc P Q G H N A F L n = R at *
 by_cases c1 : 5 <= Q
 case neg =>
  rw [show R = false by rw [HE.out]; simp [c1]]
  go_enter func48, ntmps48
  go_wp2_with fail
  go_ret
  exact ⟨rfl, HO.out _ (HW.out _)⟩
 by_cases c2 : Q < 2305843009213693952
 case neg =>
  rw [show R = false by rw [HE.out]; simp [c2]]
  go_enter func48, ntmps48
  go_wp2_with fail
  go_ret
  exact ⟨rfl, HO.out _ (HW.out _)⟩
 by_cases c3 : P = 2 * Q + 1
 case neg =>
  rw [show R = false by rw [HE.out]; simp [c3]]
  have c3 : (P != 2 * Q + 1) = true := by simp [c3]
  go_enter func48, ntmps48
  go_wp2_with fail
  go_ret
  exact ⟨rfl, HO.out _ (HW.out _)⟩
 have hE : R = (za7 N A F L n P && za7 N A F L n Q && inI P Q G && inI P Q H && !(G == 1) && !(H == 1) && !(G == H)) := by rw [HE.out]; simp [c1, c2, c3]
 clear HE
 have c4 : (P != 2 * Q + 1) = false := by simp [c3]
 clear c3
 cases pP : za7 N A F L n P
 ·rw [show R = false by rw [hE]; simp [pP]]
  clear hE
  go_enter func48, ntmps48
  go_wp2_with (first
   | (go_at_call 101; refine (HR.out _ _ (by first | exact HW.out _ | assumption)).mono ?_; rintro e w1 ⟨rfl, hb⟩; obtain ⟨d0, d1, d2, d3, d4⟩ := HF.out _ hb; first | rw [pP])
   | (go_at_call 55; refine (HI.out _ _ (by assumption) (by first | exact HW.out _ | assumption)).mono ?_; rintro e w1 ⟨rfl, hb⟩; obtain ⟨d0, d1, d2, d3, d4⟩ := HF.out _ hb; first | fail))
  go_ret
  exact ⟨rfl, HO.out _ (by assumption)⟩
 cases pQ : za7 N A F L n Q
 ·rw [show R = false by rw [hE]; simp [pQ]]
  clear hE
  go_enter func48, ntmps48
  go_wp2_with (first
   | (go_at_call 101; refine (HR.out _ _ (by first | exact HW.out _ | assumption)).mono ?_; rintro e w1 ⟨rfl, hb⟩; obtain ⟨d0, d1, d2, d3, d4⟩ := HF.out _ hb; first | rw [pP] | rw [pQ])
   | (go_at_call 55; refine (HI.out _ _ (by assumption) (by first | exact HW.out _ | assumption)).mono ?_; rintro e w1 ⟨rfl, hb⟩; obtain ⟨d0, d1, d2, d3, d4⟩ := HF.out _ hb; first | fail))
  go_ret
  exact ⟨rfl, HO.out _ (by assumption)⟩
 cases iG : inI P Q G
 ·rw [show R = false by rw [hE]; simp [iG]]
  clear hE
  go_enter func48, ntmps48
  go_wp2_with (first
   | (go_at_call 101; refine (HR.out _ _ (by first | exact HW.out _ | assumption)).mono ?_; rintro e w1 ⟨rfl, hb⟩; obtain ⟨d0, d1, d2, d3, d4⟩ := HF.out _ hb; first | rw [pP] | rw [pQ])
   | (go_at_call 55; refine (HI.out _ _ (by assumption) (by first | exact HW.out _ | assumption)).mono ?_; rintro e w1 ⟨rfl, hb⟩; obtain ⟨d0, d1, d2, d3, d4⟩ := HF.out _ hb; first | rw [iG]))
  go_ret
  exact ⟨rfl, HO.out _ (by assumption)⟩
 cases iH : inI P Q H
 ·rw [show R = false by rw [hE]; simp [iH]]
  clear hE
  go_enter func48, ntmps48
  go_wp2_with (first
   | (go_at_call 101; refine (HR.out _ _ (by first | exact HW.out _ | assumption)).mono ?_; rintro e w1 ⟨rfl, hb⟩; obtain ⟨d0, d1, d2, d3, d4⟩ := HF.out _ hb; first | rw [pP] | rw [pQ])
   | (go_at_call 55; refine (HI.out _ _ (by assumption) (by first | exact HW.out _ | assumption)).mono ?_; rintro e w1 ⟨rfl, hb⟩; obtain ⟨d0, d1, d2, d3, d4⟩ := HF.out _ hb; first | rw [iG] | rw [iH]))
  go_ret
  exact ⟨rfl, HO.out _ (by assumption)⟩
 rw [show R = (G != 1 && H != 1 && G != H) by rw [hE, pP, pQ, iG, iH]; simp [bne]]
 clear hE
 go_enter func48, ntmps48
 go_wp2_with (first
  | (go_at_call 101; refine (HR.out _ _ (by first | exact HW.out _ | assumption)).mono ?_; rintro e w1 ⟨rfl, hb⟩; obtain ⟨d0, d1, d2, d3, d4⟩ := HF.out _ hb; first | rw [pP] | rw [pQ])
  | (go_at_call 55; refine (HI.out _ _ (by assumption) (by first | exact HW.out _ | assumption)).mono ?_; rintro e w1 ⟨rfl, hb⟩; obtain ⟨d0, d1, d2, d3, d4⟩ := HF.out _ hb; first | rw [iG] | rw [iH]))
 all_goals (go_ret; refine ⟨?_, HO.out _ (by assumption)⟩)
 ·exact zad (by rw [‹G = 1›]; simp)
 ·exact zad (by rw [‹H = 1›]; simp)
 ·rfl
structure Righ (P Q G : Int) : Prop where
 two : P = 2 * Q + 1
 q0 : 5 <= Q
 q1 : Q < 2305843009213693952
 grp : Grp P.toNat Q.toNat
 gin : inI P Q G = true
 g1 : G ≠ 1
theorem zff {P Q G H : Int} {N A : NI} {F : NN} {L : Nat -> Nat} {n : Nat} (hA : ∀ i, i < n -> 0 <= A i) (h : zcc P Q G H N A F L n = true) : Righ P Q G := by
 unfold zcc at h
 simp only [Bool.and_eq_true, decide_eq_true_eq, beq_iff_eq] at h
 obtain ⟨⟨⟨⟨⟨⟨⟨⟨⟨h1, h2⟩, h3⟩, h4⟩, h5⟩, h6⟩, _⟩, h7⟩, _⟩, _⟩ := h
 obtain ⟨_, p, hp, pp, pf⟩ := zew hA h4
 obtain ⟨_, q, hq, qp, _⟩ := zew hA h5
 refine ⟨h3, h1, h2, ?_, h6, by simpa using h7⟩
 have e1 : P.toNat = p := by omega
 have e2 : Q.toNat = q := by omega
 rw [e1, e2]
 exact ⟨by omega, by omega, pp, qp, pf⟩
theorem Righ.ok {P Q G : Int} (h : Righ P Q G) : okM P = true := by
 have := h.two; have := h.q0; have := h.q1
 exact zfd (by omega) (by omega)
def fewB (L : Nat -> Nat) (n : Nat) : Bool := decide (n <= 80) && (List.range n).all fun i => decide (L i <= 40)
theorem fewB_iff {L : Nat -> Nat} {n : Nat} : fewB L n = true ↔ n <= 80 /\ ∀ i, i < n -> L i <= 40 := by
 unfold fewB
 simp [List.all_eq_true]
def prodI (P : Int) (F : NI) : Nat -> Int
 | 0 => 1
 | k + 1 => mulI (prodI P F k) (F k) P
theorem zaL (P : Int) (F : NI) : ∀ k, 0 <= prodI P F k /\ prodI P F k <= 18446744073709551615
 | 0 => by show (0 : Int) <= 1 /\ (1 : Int) <= _; omega
 | k + 1 => by
  have := mulI_bd (prodI P F k) (F k) P
  show 0 <= mulI _ _ _ /\ mulI _ _ _ <= _
  omega
theorem rprod_any (P Q G H : Int) (a : OA) (n cap : Nat) (b : OA) (len c : Nat) (F : NI) (w : World) (hl : len <= 1152921504606846976) (hin : FacsIn w b len F) :
  Calls prog 106 #[gv P Q G H a n cap, .slice b len c] w fun e w' => e = .returned (.int .u64 (prodI P F len)) /\ Old w w' := by
 have HI : Hid (FacsIn w b len F) := hin
 clear hin
 go_enter func106, ntmps106
 go_wp2_with fail
 go_loopw [5, 6] (fun nv iv wx => ∃ i : Nat, nv = .int .u64 (prodI P F i) /\ iv = .int .i64 (i : Int) /\ i <= len /\ Beh w P Q G H a n cap wx) (fun _ iv _ => len - (intOf iv).toNat)
 case atStart => exact ⟨0, rfl, rfl, Nat.zero_le _, Beh.new ..⟩
 case round =>
  obtain ⟨i, rfl, rfl, hi, hbeh⟩ := hrel
  by_cases hlt : i < len
  ·rcases HI.out.old hbeh.old with h0 | ⟨bb, off, rfl, hb, hr⟩
   ·omega
   obtain ⟨c0, f0, f1⟩ := hr i hlt
   clear hr
   obtain ⟨m0, m1⟩ := zaL P F i
   have c1 := hbeh.cell (j := 0) rfl
   have HS : Hid (prodI P F (i + 1) = mulI (prodI P F i) (F i) P) := rfl
   have HB : Hid (Beh w P Q G H a n cap wr) := hbeh
   clear hbeh
   generalize prodI P F i = m at *
   go_wp2_with fail
   go_quiet ((go_at_call 70; exact Calls.quiet_of (zbo _ _ _ _ m0 m1 f0 f1)))
   go_wp2_with fail
   go_roundw
   case rel => exact ⟨i + 1, by rw [HS.out], zab i, by omega, HB.out.then ((Old.refl _).drewN _)⟩
   case measure => simp [intOf]; omega
  ·have he : i = len := by omega
   subst he
   have HB : Hid (Beh w P Q G H a n cap wr) := hbeh
   clear hbeh
   go_wp2_with fail
   go_ret
   exact ⟨rfl, HB.out.old⟩
structure Four (P Q G H : Int) : Prop where
 p0 : 0 <= P
 p1 : P <= 18446744073709551615
 q0 : 0 <= Q
 q1 : Q <= 18446744073709551615
 g0 : 0 <= G
 g1 : G <= 18446744073709551615
 h0 : 0 <= H
 h1 : H <= 18446744073709551615
theorem gin0 (P Q G H x : Int) (a : OA) (n cap : Nat) (w : World) (q0 : 0 <= Q) (q1 : Q <= 18446744073709551615) (x1 : x <= 18446744073709551615) :
  Calls prog 52 #[gv P Q G H a n cap, .int .u64 x] w fun e w' => e = .returned (.bool (inI P Q x)) /\ Old w w' := by
 have HW : Hid (∀ o, Old w (w.alloc o)) := fun o => (Old.refl w).alloc o
 by_cases h1 : 1 <= x
 ·by_cases h2 : x < P
  ·have HC : Hid (∀ wx, Calls prog 61 #[.int .u64 x, .int .u64 Q, .int .u64 P] wx fun e w' => e = .returned (.int .u64 (powI x Q P)) /\ ∃ n, w' = wx.drewN n) := fun wx => pow_any x Q P wx (by omega) x1 q0 q1
   have HE : Hid (inI P Q x = (powI x Q P == 1)) := by unfold Hid inI; simp [h1, h2]
   generalize powI x Q P = y at *
   go_enter func52, ntmps52
   go_wp2_with (go_at_call 61; refine (HC.out _).mono ?_; rintro e w1 ⟨rfl, k1, hw1⟩)
   go_ret
   refine ⟨by rw [HE.out]; rfl, ?_⟩
   first
    | exact (HW.out _).drewN _
    | (rw [hw1]; exact (HW.out _).drewN _)
  ·have HE : Hid (inI P Q x = false) := by unfold Hid inI; simp [h2]
   go_enter func52, ntmps52
   go_wp2_with fail
   go_ret
   exact ⟨by rw [HE.out]; rfl, HW.out _⟩
 ·have HE : Hid (inI P Q x = false) := by unfold Hid inI; simp [h1]
  go_enter func52, ntmps52
  go_wp2_with fail
  go_ret
  exact ⟨by rw [HE.out]; rfl, HW.out _⟩
theorem za8 (P Q G H x y : Int) (a : OA) (n cap : Nat) (w : World) (_h4 : Four P Q G H) (hr : Righ P Q G) (x0 : 0 <= x) (x1 : x <= 18446744073709551615) (y0 : 0 <= y) (y1 : y <= 18446744073709551615) :
  Calls prog 65 #[gv P Q G H a n cap, .int .u64 x, .int .u64 y] w fun e w' => e = .returned (.int .u64 (expI P Q x y)) /\ Old w w' := by
 have q5 := hr.q0
 have q6 := hr.q1
 have m0 : 0 <= y % Q := Int.emod_nonneg _ (by omega)
 have m1 : y % Q < Q := Int.emod_lt_of_pos _ (by omega)
 have HW : Hid (∀ o, Old w (w.alloc o)) := fun o => (Old.refl w).alloc o
 have HE : Hid (expI P Q x y = powI x (y % Q) P) := by unfold Hid expI; rw [if_neg (by omega)]
 have HA : Hid (∀ wx, Calls prog 71 #[.int .u64 y, .int .u64 0, .int .u64 Q] wx fun e w' => e = .returned (.int .u64 (y % Q)) /\ ∃ n, w' = wx.drewN n) := fun wx => by
  have h := zeg y 0 Q wx y0 y1 (by omega) (by omega)
  rw [za4 (zfd (by omega) (by omega)), Int.add_zero] at h
  exact h
 have HP : Hid (∀ wx, Calls prog 61 #[.int .u64 x, .int .u64 (y % Q), .int .u64 P] wx fun e w' => e = .returned (.int .u64 (expI P Q x y)) /\ ∃ n, w' = wx.drewN n) := fun wx => by
  rw [HE.out]
  exact pow_any x (y % Q) P wx x0 x1 m0 (by omega)
 generalize expI P Q x y = R at *
 generalize y % Q = z at *
 clear hr q5 q6 m0 m1 HE
 go_enter func65, ntmps65
 go_wp2_with fail
 go_quiet (first
  | (go_at_call 71; exact Calls.quiet_of (HA.out _))
  | (go_at_call 61; exact Calls.quiet_of (HP.out _)))
 go_wp2_with fail
 go_ret
 exact ⟨rfl, (HW.out _).drewN _⟩
theorem gprod0 (P Q G H : Int) (a : OA) (n cap : Nat) (b : OA) (len c : Nat) (F : NI) (w : World) (hl : len <= 1152921504606846976) (hin : FacsIn w b len F) :
  Calls prog 64 #[gv P Q G H a n cap, .slice b len c] w fun e w' => e = .returned (.int .u64 (prodI P F len)) /\ Old w w' := by
 have HI : Hid (FacsIn w b len F) := hin
 clear hin
 go_enter func64, ntmps64
 go_wp2_with fail
 go_loopw [5, 10] (fun nv iv wx => ∃ i : Nat, nv = .int .u64 (prodI P F i) /\ iv = .int .i64 (i : Int) /\ i <= len /\ Beh w P Q G H a n cap wx) (fun _ iv _ => len - (intOf iv).toNat)
 case atStart => exact ⟨0, rfl, rfl, Nat.zero_le _, Beh.new ..⟩
 case round =>
  obtain ⟨i, rfl, rfl, hi, hbeh⟩ := hrel
  by_cases hlt : i < len
  ·rcases HI.out.old hbeh.old with h0 | ⟨bb, off, rfl, hb, hr⟩
   ·omega
   obtain ⟨c0, f0, f1⟩ := hr i hlt
   clear hr
   obtain ⟨m0, m1⟩ := zaL P F i
   have c1 := hbeh.cell (j := 0) rfl
   have HS : Hid (prodI P F (i + 1) = mulI (prodI P F i) (F i) P) := rfl
   have HB : Hid (Beh w P Q G H a n cap wr) := hbeh
   clear hbeh
   generalize prodI P F i = m at *
   go_wp2_with (go_at_call 72; refine (zcU _ _ _ _ m0 m1 f0 f1).mono ?_; rintro e w1 ⟨rfl, hd⟩)
   go_roundw
   case rel => exact ⟨i + 1, by rw [HS.out], zab i, by omega, HB.out.then ((Old.refl _).draws hd)⟩
   case measure => simp [intOf]; omega
  ·have he : i = len := by omega
   subst he
   have HB : Hid (Beh w P Q G H a n cap wr) := hbeh
   clear hbeh
   go_wp2_with fail
   go_ret
   exact ⟨rfl, HB.out.old⟩
theorem zcl (P Q G H : Int) (a : OA) (n cap : Nat) (b : OA) (len c : Nat) (F : NI) (w : World) (_h4 : Four P Q G H) (_hr : Righ P Q G) (_hc : len <= c) (hl : len <= 1152921504606846976) (hin : FacsIn w b len F) :
  Calls prog 64 #[gv P Q G H a n cap, .slice b len c] w fun e w' => e = .returned (.int .u64 (prodI P F len)) /\ Old w w' := gprod0 P Q G H a n cap b len c F w hl hin
theorem Righ.p11 {P Q G : Int} (h : Righ P Q G) : 11 <= P := by have := h.two; have := h.q0; omega
theorem Righ.ppos {P Q G : Int} (h : Righ P Q G) : 0 < P := by have := h.p11; omega
theorem Righ.in_iff {P Q G x : Int} (h : Righ P Q G) : inI P Q x = true ↔ 1 <= x /\ x < P /\ x ^ Q.toNat % P = 1 := by
 rw [inI_iff, zbF h.ok]
theorem Righ.one_mod {P Q G : Int} (h : Righ P Q G) : (1 : Int) % P = 1 := by
 have := h.p11
 exact Int.emod_eq_of_lt (by omega) (by omega)
theorem Righ.in_mod {P Q G z : Int} (h : Righ P Q G) (hz : z ^ Q.toNat % P = 1) : inI P Q (z % P) = true := by
 have hp := h.ppos
 have h0 := Int.emod_nonneg z (show P ≠ 0 by omega)
 have h1 := Int.emod_lt_of_pos z hp
 have hc : (z % P) ^ Q.toNat % P = 1 := by rw [zaX (zak z P) Q.toNat, hz]
 refine h.in_iff.2 ⟨?_, h1, hc⟩
 rcases Int.lt_or_le 0 (z % P) with hl | hl
 ·omega
 ·have e : z % P = 0 := by omega
  rw [e, show Q.toNat = (Q.toNat - 1) + 1 by have := h.q0; omega, Int.pow_succ] at hc
  simp at hc
theorem Righ.one_in {P Q G : Int} (h : Righ P Q G) : inI P Q 1 = true := by
 have := h.in_mod (z := 1) (by rw [Int.one_pow]; exact h.one_mod)
 rwa [h.one_mod] at this
theorem Righ.lt {P Q G x : Int} (h : Righ P Q G) (hx : inI P Q x = true) : 0 <= x /\ x < P := by
 obtain ⟨a, b, _⟩ := h.in_iff.1 hx
 omega
theorem Righ.self {P Q G x : Int} (h : Righ P Q G) (hx : inI P Q x = true) : x % P = x := Int.emod_eq_of_lt (h.lt hx).1 (h.lt hx).2
theorem Righ.mul_in {P Q G x y : Int} (h : Righ P Q G) (hx : inI P Q x = true) (hy : inI P Q y = true) : inI P Q (mulI x y P) = true := by
 rw [zaw h.ok]
 refine h.in_mod ?_
 rw [Int.mul_pow, zan (b := 1) (d := 1) (by rw [(h.in_iff.1 hx).2.2, h.one_mod]) (by rw [(h.in_iff.1 hy).2.2, h.one_mod])]
 exact h.one_mod
theorem zbd {P x y a b : Int} (h : okM P = true) (hx : x % P = a % P) (hy : y % P = b % P) : mulI x y P % P = a * b % P := by
 rw [zaw h, zak]
 exact zan hx hy
theorem Righ.exp_cong {P Q G x e : Int} (h : Righ P Q G) (hx : inI P Q x = true) (he : 0 <= e) : expI P Q x e % P = x ^ e.toNat % P := by
 have hq := h.q0
 unfold expI
 rw [if_neg (by omega), zbF h.ok, zak]
 have hd := Int.emod_add_mul_ediv e Q
 have r0 := Int.emod_nonneg e (show Q ≠ 0 by omega)
 have d0 := Int.ediv_nonneg he (show 0 <= Q by omega)
 have hn : e.toNat = (e % Q).toNat + Q.toNat * (e / Q).toNat := by
  apply Int.ofNat.inj
  show (e.toNat : Int) = (((e % Q).toNat + Q.toNat * (e / Q).toNat : Nat) : Int)
  rw [Int.natCast_add, Int.natCast_mul, Int.toNat_of_nonneg he, Int.toNat_of_nonneg r0, Int.toNat_of_nonneg d0, Int.toNat_of_nonneg (by omega)]
  exact hd.symm
 rw [hn, Int.pow_add, Int.pow_mul]
 have hk : (x ^ Q.toNat) ^ (e / Q).toNat % P = 1 % P := by
  rw [zaX (b := 1) (by rw [(h.in_iff.1 hx).2.2, h.one_mod]) _, Int.one_pow]
 have := zan (a := x ^ (e % Q).toNat) (b := x ^ (e % Q).toNat) rfl hk
 rw [Int.mul_one] at this
 exact this.symm
theorem Righ.exp_in {P Q G x e : Int} (h : Righ P Q G) (hx : inI P Q x = true) : inI P Q (expI P Q x e) = true := by
 have hq := h.q0
 unfold expI
 rw [if_neg (by omega), zbF h.ok]
 refine h.in_mod ?_
 rw [<- Int.pow_mul, Nat.mul_comm, Int.pow_mul, zaX (b := 1) (by rw [(h.in_iff.1 hx).2.2, h.one_mod]) _, Int.one_pow]
 exact h.one_mod
def pr (F : NI) : Nat -> Int
 | 0 => 1
 | k + 1 => pr F k * F k
theorem prod_cong {P : Int} (h : okM P = true) (F : NI) : ∀ k, prodI P F k % P = pr F k % P
 | 0 => rfl
 | k + 1 => by
  show mulI (prodI P F k) (F k) P % P = pr F k * F k % P
  exact zbd h (prod_cong h F k) rfl
theorem Righ.prod_in {P Q G : Int} (h : Righ P Q G) {F : NI} : ∀ k, (∀ i, i < k -> inI P Q (F i) = true) -> inI P Q (prodI P F k) = true
 | 0, _ => h.one_in
 | k + 1, hF => h.mul_in (h.prod_in k fun i hi => hF i (by omega)) (hF k (by omega))
theorem prod_two {P a b : Int} (h : okM P = true) {F : NI} (h0 : F 0 = a) (h1 : F 1 = b) : prodI P F 2 = mulI a b P := by
 show mulI (mulI 1 (F 0) P) (F 1) P = _
 rw [h0, h1, zaw h, zaw h, zaw h, Int.one_mul]
 exact zan (zak a P) rfl
theorem Righ.inv {P Q G y : Int} (h : Righ P Q G) (hy : inI P Q y = true) : invB y P = true /\ inI P Q (invI y P) = true /\ y * invI y P % P = 1 := by
 have hp := h.ppos
 have hq := h.q0
 have e1 : y * (y ^ (Q.toNat - 1) % P) % P = 1 := by
  rw [zan (a := y) (b := y) rfl (zak (y ^ (Q.toNat - 1)) P), Int.mul_comm, <- Int.pow_succ, show (Q.toNat - 1).succ = Q.toNat by omega]
  exact (h.in_iff.1 hy).2.2
 obtain ⟨b1, b2⟩ := inv_has h.ok (Int.emod_nonneg _ (by omega)) (Int.emod_lt_of_pos _ hp) e1
 refine ⟨b1, ?_, by rw [b2]; exact e1⟩
 rw [b2]
 refine h.in_mod ?_
 rw [<- Int.pow_mul, Nat.mul_comm, Int.pow_mul, zaX (b := 1) (by rw [(h.in_iff.1 hy).2.2, h.one_mod]) _, Int.one_pow]
 exact h.one_mod
def overI (P x y : Int) : Int := mulI x (invI y P) P
theorem Righ.over_cong {P Q G y : Int} (h : Righ P Q G) (hy : inI P Q y = true) (x : Int) : overI P x y * y % P = x % P := by
 unfold overI
 have h1 := zbd (x := x) (y := invI y P) (a := x) (b := invI y P) h.ok rfl rfl
 have h2 := zan (c := y) (d := y) h1 rfl
 rw [h2, Int.mul_assoc, Int.mul_comm (invI y P) y]
 have := zan (a := x) (b := x) (c := y * invI y P) (d := 1) (m := P) rfl (by rw [(h.inv hy).2.2, h.one_mod])
 rw [this, Int.mul_one]
theorem Righ.over_in {P Q G x y : Int} (h : Righ P Q G) (hx : inI P Q x = true) (hy : inI P Q y = true) : inI P Q (overI P x y) = true := h.mul_in hx (h.inv hy).2.1
theorem Righ.cancel {P Q G y a b : Int} (h : Righ P Q G) (hy : inI P Q y = true) (hab : a * y % P = b * y % P) : a % P = b % P := by
 have key : ∀ z : Int, z * y * invI y P % P = z % P := fun z => by
  rw [Int.mul_assoc]
  have := zan (a := z) (b := z) (c := y * invI y P) (d := 1) (m := P) rfl (by rw [(h.inv hy).2.2, h.one_mod])
  rw [this, Int.mul_one]
 rw [<- key a, <- key b]
 exact zan hab rfl
abbrev pv (u v : Int) : Value := .agg #[.int .u64 u, .int .u64 v]
abbrev tv (u m v : Int) : Value := .agg #[.int .u64 u, .int .u64 m, .int .u64 v]
def U64 (x : Int) : Prop := 0 <= x /\ x <= 18446744073709551615
theorem zaI (x y P : Int) : U64 (mulI x y P) := by have := mulI_bd x y P; unfold U64; omega
theorem zaz (P Q x e : Int) : U64 (expI P Q x e) := by
 unfold U64 expI
 split
 ·omega
 ·have := powI_bd x (e % Q) P
  omega
theorem u64_over (P x y : Int) : U64 (overI P x y) := zaI _ _ _
theorem zdm (P : Int) (F : NI) (k : Nat) : U64 (prodI P F k) := zaL P F k
structure Lain (w : World) (l : List (Array Value × TypeId)) (W : World) : Prop where
 old : Old w W
 row : ∀ i (h : i < l.length), W.heap[w.heap.size + i]? = some (.cells (l[i]).1 (l[i]).2 (0, 0))
 size : w.heap.size + l.length <= W.heap.size
theorem Lain.nil (w : World) : Lain w [] w := ⟨Old.refl w, fun i h => by simp at h, by simp⟩
theorem Lain.add {w W : World} {l : List (Array Value × TypeId)} (h : Lain w l W) (he : W.heap.size = w.heap.size + l.length) (c : Array Value) (t : TypeId) : Lain w (l ++ [(c, t)]) (W.alloc (.cells c t)) := by
 refine ⟨h.old.alloc _, fun i hi => ?_, by simp [he]; omega⟩
 simp only [World.alloc]
 rw [Array.getElem?_push]
 by_cases hl : i < l.length
 ·rw [if_neg (by omega), h.row i hl]
  simp [List.getElem_append_left hl]
 ·have : i = l.length := by simp at hi; omega
  subst this
  rw [if_pos (by omega)]
  simp
theorem Lain.then {w W W' : World} {l : List (Array Value × TypeId)} (h : Lain w l W) (k : Old W W') : Lain w l W' :=
 ⟨h.old.trans k, fun i hi => (k.block _ (by have := h.size; omega)).trans (h.row i hi), Nat.le_trans h.size k.size⟩
theorem Lain.cell {w W : World} {l : List (Array Value × TypeId)} (h : Lain w l W) (i j : Nat) (hi : i < l.length) {v : Value} (hv : (l[i]).1[j]? = some v) : W.cell? ⟨w.heap.size + i, j, none⟩ = some v := by
 have := h.row i hi
 rw [cell_of_row _ _ j _ _ (0, 0) this]
 exact hv
theorem lain1 (w : World) (c : Array Value) (t : TypeId) : Lain w [(c, t)] (w.alloc (.cells c t)) := (Lain.nil w).add (by simp) c t
theorem lain2 (w : World) (c d : Array Value) (t s : TypeId) : Lain w [(c, t), (d, s)] ((w.alloc (.cells c t)).alloc (.cells d s)) := (lain1 w c t).add (by simp) d s
theorem lain3 (w : World) (c d e : Array Value) (t s r : TypeId) : Lain w [(c, t), (d, s), (e, r)] (((w.alloc (.cells c t)).alloc (.cells d s)).alloc (.cells e r)) := (lain2 w c d t s).add (by simp) e r
abbrev gc (P Q G H : Int) (a : OA) (n cap : Nat) : Array Value := #[.int .u64 P, .int .u64 Q, .int .u64 G, .int .u64 H, .slice a n cap]
abbrev pc (u v : Int) : Array Value := #[.int .u64 u, .int .u64 v]
abbrev tc (u m v : Int) : Array Value := #[.int .u64 u, .int .u64 m, .int .u64 v]
theorem zaq {W : World} {b : Nat} {c : Array Value} {t : TypeId} (h : W.heap[b]? = some (.cells c t (0, 0))) (j : Nat) (v : Value) : (W.setCell ⟨b, j, none⟩ v).heap[b]? = some (.cells (c.setIfInBounds j v) t (0, 0)) := by
 simp [World.setCell, Array.getElem?_modify, h]
theorem zac {W : World} {b : Nat} {c : Array Value} {t : TypeId} (h : W.heap[b]? = some (.cells c t (0, 0))) (j : Nat) : W.frozen? ⟨b, j, none⟩ = false := by
 simp [World.frozen?, h]
theorem zaE {W : World} {b k i j : Nat} {x v : Value} (hne : k ≠ b) (h : W.cell? ⟨k, j, none⟩ = some v) : (W.setCell ⟨b, i, none⟩ x).cell? ⟨k, j, none⟩ = some v := by
 rw [World.cell?_setCell_other _ _ _ _ (fun e => hne (congrArg Addr.block e).symm)]
 exact h
theorem zaW {P : Program} {W : World} {b : Nat} {p q x y : Value} {t ty : TypeId} {fs : Array Field} (h : W.heap[b]? = some (.cells #[p, q] t (0, 0))) (hu : P.underlying ty = some (.struct fs)) (hi : (P.info? ty).map (·.size) = some 2) :
  (loadVar ty ⟨b, 0, none⟩).run P ((W.setCell ⟨b, 0, none⟩ x).setCell ⟨b, 1, none⟩ y) = .ok (.agg #[x, y]) ((W.setCell ⟨b, 0, none⟩ x).setCell ⟨b, 1, none⟩ y) :=
 run_loadVar_row _ b t ty #[x, y] (0, 0) _ (by have := zaq (zaq h 0 x) 1 y; simpa using this) hu rfl hi
theorem result5 {P : Program} {fn : Func} {s : Tmp} {t : TypeId} {tmps : Array Value} {w : World} {b : Nat} {v : Value} (h : fn.results = #[.cell s t]) (hp : tmps[s]? = some (.pointer (some ⟨b, 0, none⟩))) (hl : (loadVar t ⟨b, 0, none⟩).run P w = .ok v w) : (results fn tmps).run P w = .ok v w := by
 simp [results, h, hp, asAddr, hl]
theorem zcp : (prog.info? 69).map (·.size) = some 2 := by kernel_rfl
def two5 (x y : Int) : Nat -> Int | 0 => x | _ => y
theorem zdT (w : World) (x y : Int) (t : TypeId) (hx : U64 x) (hy : U64 y) : FacsIn (w.alloc (.cells #[.int .u64 x, .int .u64 y] t)) (some ⟨w.heap.size, 0, none⟩) 2 (two5 x y) := by
 refine Or.inr ⟨_, _, rfl, by simp, fun j hj => ?_⟩
 match j, hj with
 | 0, _ => exact ⟨(World.cell?_alloc_mark w _ t (0, 0) 0).trans rfl, hx.1, hx.2⟩
 | 1, _ => exact ⟨(World.cell?_alloc_mark w _ t (0, 0) 1).trans rfl, hy.1, hy.2⟩
theorem prod5 {P Q G : Int} (h : Righ P Q G) (x y : Int) : prodI P (two5 x y) 2 = mulI x y P := prod_two h.ok rfl rfl
theorem inI_bd5 {P Q G y : Int} (h : Righ P Q G) (hy : inI P Q y = true) : 0 <= y /\ y <= 18446744073709551615 := by
 have := h.lt hy; have := h.two; have := h.q1
 omega
theorem rover_any (P Q G H : Int) (a : OA) (n cap : Nat) (x y : Int) (w : World) (hx : U64 x) (hy : U64 y) :
  Calls prog 86 #[gv P Q G H a n cap, .int .u64 x, .int .u64 y] w fun e w' => e = .returned (.int .u64 (overI P x y)) /\ Old w w' := by
 have HI : Hid (∀ wx, Beh w P Q G H a n cap wx -> Calls prog 124 #[.int .u64 y, .int .u64 P] wx fun e w' => e = .returned (.tuple #[.int .u64 (invI y P), .bool (invB y P)]) /\ Beh w P Q G H a n cap w') :=
  fun wx hb => (rinv_any y P wx hy.1 hy.2).mono fun e w' ⟨h, k⟩ => ⟨h, hb.then ((Old.refl _).draws k)⟩
 have HM : Hid (∀ wx, Beh w P Q G H a n cap wx -> Calls prog 70 #[.int .u64 x, .int .u64 (invI y P), .int .u64 P] wx fun e w' => e = .returned (.int .u64 (overI P x y)) /\ Beh w P Q G H a n cap w') :=
  fun wx hb => (zbo x (invI y P) P wx hx.1 hx.2 (by have := invI_bd y P; omega) (by have := invI_bd y P; omega)).mono fun e w' ⟨h, k⟩ => ⟨h, hb.then ((Old.refl _).draws k)⟩
 have HN : Hid (∀ t, Beh w P Q G H a n cap (w.alloc (go P Q G H a n cap t))) := fun t => Beh.new ..
 have HF : Hid (∀ w', Beh w P Q G H a n cap w' -> w'.cell? ⟨w.heap.size, 0, none⟩ = some (.int .u64 P)) := fun _ h => h.cell rfl
 have HO : Hid (∀ w', Beh w P Q G H a n cap w' -> Old w w') := fun _ h => h.old
 generalize overI P x y = z at *
 generalize invI y P = i at *
 generalize invB y P = ib at *
 clear hx hy
 go_enter func86, ntmps86
 go_wp2_with (first
  | (go_at_call 124; refine (HI.out _ (by first | exact HN.out _ | assumption)).mono ?_; rintro e w1 ⟨rfl, hb1⟩; have d0 := HF.out _ hb1)
  | (go_at_call 70; refine (HM.out _ (by first | exact HN.out _ | assumption)).mono ?_; rintro e w2 ⟨rfl, hb2⟩))
 go_ret
 exact ⟨rfl, HO.out _ (by assumption)⟩
theorem ragain_any (P Q G H : Int) (a : OA) (n cap : Nat) (y u v r : Int) (w : World) (h4 : Four P Q G H) (hr : Righ P Q G) (hy : U64 y) (hu : U64 u) (hv : U64 v) (hrr : U64 r) :
  Calls prog 57 #[gv P Q G H a n cap, .int .u64 y, pv u v, .int .u64 r] w fun e w' => e = .returned (pv (mulI u (expI P Q G r) P) (mulI v (expI P Q y r) P)) /\ Old w w' := by
 have HE : Hid (∀ x e wx, U64 x -> U64 e -> Lain w [(gc P Q G H a n cap, 25), (pc u v, 69), (pc 0 0, 69)] wx -> Calls prog 68 #[gv P Q G H a n cap, .int .u64 x, .int .u64 e] wx fun r w' => r = .returned (.int .u64 (expI P Q x e)) /\ Lain w [(gc P Q G H a n cap, 25), (pc u v, 69), (pc 0 0, 69)] w') :=
  fun x e wx hx he hb => (rexp_any P Q G H x e a n cap wx h4.q1 hx.1 hx.2 he.1 he.2).mono fun r w' ⟨h, k⟩ => ⟨h, hb.then k⟩
 have HP : Hid (∀ x y t wx, U64 x -> U64 y -> Lain w [(gc P Q G H a n cap, 25), (pc u v, 69), (pc 0 0, 69)] wx -> Calls prog 106 #[gv P Q G H a n cap, .slice (some ⟨wx.heap.size, 0, none⟩) 2 2] (wx.alloc (.cells #[.int .u64 x, .int .u64 y] t)) fun r w' => r = .returned (.int .u64 (mulI x y P)) /\ Lain w [(gc P Q G H a n cap, 25), (pc u v, 69), (pc 0 0, 69)] w') :=
  fun x y t wx hx hy hb => (rprod_any P Q G H a n cap _ 2 2 _ _ (by decide) (zdT wx x y t hx hy)).mono fun r w' ⟨h, k⟩ => ⟨by rw [h, prod5 hr], hb.then (((Old.refl _).alloc _).trans k)⟩
 have HD : Hid (∀ wx, Lain w [(gc P Q G H a n cap, 25), (pc u v, 69), (pc 0 0, 69)] wx -> Lain w [(gc P Q G H a n cap, 25), (pc u v, 69), (pc 0 0, 69)] wx.drew) := fun _ h => h.then (Old.refl _).drew
 have HO : Hid (∀ wx, Lain w [(gc P Q G H a n cap, 25), (pc u v, 69), (pc 0 0, 69)] wx -> Old w wx) := fun _ h => h.old
 have hG : U64 G := ⟨h4.g0, h4.g1⟩
 have HF : Hid (∀ w', Lain w [(gc P Q G H a n cap, 25), (pc u v, 69), (pc 0 0, 69)] w' -> G6 w' (w.heap.size) P Q G H (.slice a n cap) (w'.cell? ⟨w.heap.size + 1, 0, none⟩ = some (.int .u64 u) /\ w'.cell? ⟨w.heap.size + 1, 1, none⟩ = some (.int .u64 v))) := fun _ h => ⟨h.cell 0 0 (by simp) rfl, h.cell 0 1 (by simp) rfl, h.cell 0 2 (by simp) rfl, h.cell 0 3 (by simp) rfl, h.cell 0 4 (by simp) rfl, h.cell 1 0 (by simp) rfl, h.cell 1 1 (by simp) rfl⟩
 have HZ := lain3 w (gc P Q G H a n cap) (pc u v) (pc 0 0) 25 69 69
 clear h4 hr
 go_enter func57, ntmps57
 go_upto_region 1 with fail
 generalize hW : ((w.alloc (.cells (gc P Q G H a n cap) 25)).alloc (.cells (pc u v) 69)).alloc (.cells (pc 0 0) 69) = W at *
 clear hW
 obtain ⟨d0, d1, d2, d3, d4, e0, e1⟩ := HF.out _ HZ
 go_region_held3 (fun w' => w'.cell? ⟨w.heap.size, 0, none⟩ = some (.int .u64 P) /\ w'.cell? ⟨w.heap.size, 1, none⟩ = some (.int .u64 Q) /\ w'.cell? ⟨w.heap.size, 2, none⟩ = some (.int .u64 G) /\ w'.cell? ⟨w.heap.size, 3, none⟩ = some (.int .u64 H) /\ w'.cell? ⟨w.heap.size, 4, none⟩ = some (.slice a n cap) /\ w'.cell? ⟨w.heap.size + 1, 0, none⟩ = some (.int .u64 u) /\ w'.cell? ⟨w.heap.size + 1, 1, none⟩ = some (.int .u64 v)) (first | go_keep | exact HF.out _ (by assumption)) (first
  | (go_at_call 68; refine (HE.out _ _ _ (by assumption) (by assumption) (by first | assumption | exact HD.out _ (by assumption))).mono ?_; rintro e w1 ⟨rfl, hb⟩)
  | (go_at_call 106; refine (HP.out _ _ _ _ (by assumption) (by first | assumption | exact zaz _ _ _ _) (by first | assumption | exact HD.out _ (by assumption))).mono ?_; rintro e w2 ⟨rfl, hb⟩))
 clear d0 d1 d2 d3 d4 e0 e1
 obtain ⟨d0, d1, d2, d3, d4, e0, e1⟩ := HF.out _ hb
 go_upto_region 2 with fail
 go_region_held3 (fun w' => w'.cell? ⟨w.heap.size, 0, none⟩ = some (.int .u64 P) /\ w'.cell? ⟨w.heap.size, 1, none⟩ = some (.int .u64 Q) /\ w'.cell? ⟨w.heap.size, 2, none⟩ = some (.int .u64 G) /\ w'.cell? ⟨w.heap.size, 3, none⟩ = some (.int .u64 H) /\ w'.cell? ⟨w.heap.size, 4, none⟩ = some (.slice a n cap) /\ w'.cell? ⟨w.heap.size + 1, 0, none⟩ = some (.int .u64 u) /\ w'.cell? ⟨w.heap.size + 1, 1, none⟩ = some (.int .u64 v)) (first | go_keep | exact HF.out _ (by assumption)) (first
  | (go_at_call 68; refine (HE.out _ _ _ (by assumption) (by assumption) (by first | assumption | exact HD.out _ (by assumption))).mono ?_; rintro e w3 ⟨rfl, hb⟩)
  | (go_at_call 106; refine (HP.out _ _ _ _ (by assumption) (by first | assumption | exact zaz _ _ _ _) (by first | assumption | exact HD.out _ (by assumption))).mono ?_; rintro e w4 ⟨rfl, hb⟩))
 have hrow := hb.row 2 (by simp)
 have q0 := Y0 hrow
 have q1 := Y1 hrow
 have f0 := zac hrow 0
 have f1 := zac hrow 1
 have HL : Hid (Old w w4) := hb.old
 have HR : Hid (w4.heap[w.heap.size + 2]? = some (.cells #[.int .u64 0, .int .u64 0] 69 (0, 0))) := hrow
 simp at q0 q1
 clear hrow
 go_wp2_with fail
 exact bodyPost_ret (result5 (b := w.heap.size + 2) rfl rfl (zaW HR.out U69 zcp)) rfl ⟨rfl, (HL.out.setCell (by simp; omega) _).setCell (by simp; omega) _⟩
theorem inv_any (a m : Int) (w : World) (a0 : 0 <= a) (a1 : a <= 18446744073709551615) :
  Calls prog 138 #[.int .u64 a, .int .u64 m] w fun e w' => e = .returned (.tuple #[.int .u64 (invI a m), .bool (invB a m)]) /\ ∃ n, w' = w.drewN n := by
 cases hm : okM m
 ·have hn := zcI hm
  go_enter func138, ntmps138
  go_wp2_with (go_at_call 107; refine (zc5 _ _ hn).mono ?_; rintro e w' ⟨rfl, rfl⟩)
  go_ret2
  exact ⟨zdC (zei hm).2.symm (zei hm).1.symm, 0, rfl⟩
 ·have ⟨m0, m1⟩ := zaF hm
  obtain ⟨x0, x1⟩ := zaN a hm
  have HM : Hid (okM m = true) := hm
  clear hm
  have HS : Hid (∀ x y : Int, subI x y m = (x - y) % m /\ 0 <= subI x y m /\ subI x y m < m) := fun x y => by rw [zb7 HM.out]; exact ⟨rfl, zaN _ HM.out⟩
  have HT : Hid (∀ x y : Int, mulI x y m = x * y % m /\ 0 <= mulI x y m /\ mulI x y m < m) := fun x y => by rw [zaw HM.out]; exact ⟨rfl, zaN _ HM.out⟩
  have HZ : Hid (m ∣ a * 0 - m /\ m ∣ a * 1 - a % m /\ ∀ d : Int, d ∣ m -> d ∣ a % m -> d ∣ m /\ d ∣ a) := zdH a m
  go_enter func138, ntmps138
  go_wp2_with (go_at_call 107; refine (zck _ _ m0 m1).mono ?_; rintro e w' ⟨rfl, rfl⟩)
  go_quiet (fail)
  go_wp2_with fail
  go_loopw [6, 7, 8, 9] (fun rv xv fv gv wx => ∃ (r x f g : Int) (nd : Nat), rv = .int .u64 r /\ xv = .int .u64 x /\ fv = .int .u64 f /\ gv = .int .u64 g /\ 1 <= r /\ r <= m /\ 0 <= x /\ x <= m /\ 0 <= f /\ f < m /\ 0 <= g /\ g < m /\ Hid (m ∣ a * f - r) /\ Hid (m ∣ a * g - x) /\ Hid (∀ d : Int, d ∣ r -> d ∣ x -> d ∣ m /\ d ∣ a) /\ wx = w.drewN nd) (fun _ xv _ _ _ => (intOf xv).toNat)
  case atStart => exact ⟨_, _, 0, 1, _, rfl, rfl, rfl, rfl, by omega, by omega, x0, by omega, by omega, by omega, by omega, by omega, HZ.out.1, HZ.out.2.1, HZ.out.2.2, rfl⟩
  case round =>
   obtain ⟨r, x, f, g, nd, rfl, rfl, rfl, rfl, r0, r1, y0, y1, f0, f1, g0, g1, D1, D2, D3, rfl⟩ := hrel
   by_cases hx : 0 < x
   ·have k0 := Int.ediv_nonneg (show 0 <= r by omega) y0
    have k1 : r / x <= r := Int.ediv_le_self _ (by omega)
    have k2 := Int.emod_nonneg r (show x ≠ 0 by omega)
    have k3 := Int.emod_lt_of_pos r hx
    obtain ⟨u1, u2, u3⟩ := HT.out (r / x) g
    obtain ⟨t1, t2, t3⟩ := HS.out f (mulI (r / x) g m)
    have U1 : Hid (mulI (r / x) g m = r / x * g % m) := u1
    have T1 : Hid (subI f (mulI (r / x) g m) m = (f - mulI (r / x) g m) % m) := t1
    clear u1 t1
    go_wp2_with fail
    go_quiet (fail)
    go_wp2_with (first | (go_at_call 72; refine (zcU _ _ _ _ (by omega) (by omega) (by omega) (by omega)).mono ?_; rintro e w' ⟨rfl, n, rfl⟩) | (go_at_call 108; refine (sub_any _ _ _ _ (by omega) (by omega) (by omega) (by omega)).mono ?_; rintro e w' ⟨rfl, n, rfl⟩))
    go_roundw
    case rel => exact ⟨_, _, _, _, _, rfl, rfl, rfl, rfl, by omega, by omega, by omega, by omega, g0, g1, t2, t3, D2, by rw [T1.out, U1.out]; exact zeC D1.out D2.out, ze9 D3.out, rfl⟩
    case measure => simp [intOf]; omega
   ·have hz : x = 0 := by omega
    subst hz
    by_cases h1 : r = 1
    ·subst h1
     have hy := ze1 HM.out f0 f1 D1.out
     have HY : Hid (invB a m = true /\ invI a m = f) := hy
     clear hy
     go_wp2
     go_ret2
     exact ⟨zdC HY.out.2.symm HY.out.1.symm, _, rfl⟩
    ·have hy := euclid_no HM.out r0 h1 D3.out
     have HY : Hid (invB a m = false /\ invI a m = 0) := hy
     clear hy
     go_wp2
     go_ret2
     exact ⟨zdC HY.out.2.symm HY.out.1.symm, _, rfl⟩
theorem gover_any (P Q G H : Int) (a : OA) (n cap : Nat) (x y : Int) (w : World) (h4 : Four P Q G H) (hr : Righ P Q G) (hx : U64 x) (hy : inI P Q y = true) :
  Calls prog 99 #[gv P Q G H a n cap, .int .u64 x, .int .u64 y] w fun e w' => e = .returned (.int .u64 (overI P x y)) /\ Old w w' := by
 have hy2 := inI_bd5 hr hy
 have hiv := hr.inv hy
 have hi2 := inI_bd5 hr hiv.2.1
 have HI : Hid (∀ wx, Beh w P Q G H a n cap wx -> Calls prog 138 #[.int .u64 y, .int .u64 P] wx fun e w' => e = .returned (.tuple #[.int .u64 (invI y P), .bool true]) /\ Beh w P Q G H a n cap w') :=
  fun wx hb => (inv_any y P wx hy2.1 hy2.2).mono fun e w' ⟨h, k⟩ => ⟨by rw [h, hiv.1], hb.then ((Old.refl _).draws k)⟩
 have HN' : Hid (∀ wx, Beh w P Q G H a n cap wx -> Calls prog 52 #[gv P Q G H a n cap, .int .u64 (invI y P)] wx fun e w' => e = .returned (.bool true) /\ Beh w P Q G H a n cap w') :=
  fun wx hb => (gin0 P Q G H (invI y P) a n cap wx h4.q0 h4.q1 hi2.2).mono fun e w' ⟨h, k⟩ => ⟨by rw [h, hiv.2.1], hb.then k⟩
 have HM : Hid (∀ wx t, Beh w P Q G H a n cap wx -> Calls prog 64 #[gv P Q G H a n cap, .slice (some ⟨wx.heap.size, 0, none⟩) 2 2] (wx.alloc (.cells #[.int .u64 x, .int .u64 (invI y P)] t)) fun e w' => e = .returned (.int .u64 (overI P x y)) /\ Beh w P Q G H a n cap w') :=
  fun wx t hb => (zcl P Q G H a n cap _ 2 2 _ _ h4 hr (by decide) (by decide) (zdT wx x (invI y P) t hx hi2)).mono fun e w' ⟨h, k⟩ => ⟨by rw [h, prod5 hr]; rfl, hb.then (((Old.refl _).alloc _).trans k)⟩
 have HN : Hid (∀ t, Beh w P Q G H a n cap (w.alloc (go P Q G H a n cap t))) := fun t => Beh.new ..
 have HF : Hid (∀ wx, Beh w P Q G H a n cap wx -> G5 wx (w.heap.size) P Q G H (.slice a n cap)) := fun _ hb => ⟨hb.cell rfl, hb.cell rfl, hb.cell rfl, hb.cell rfl, hb.cell rfl⟩
 have HO : Hid (∀ w', Beh w P Q G H a n cap w' -> Old w w') := fun _ h => h.old
 generalize overI P x y = z at *
 generalize invI y P = i at *
 clear h4 hr hx hy hy2 hiv hi2
 go_enter func99, ntmps99
 go_wp2_with (first
  | (go_at_call 138; refine (HI.out _ (by first | exact HN.out _ | assumption)).mono ?_; rintro e w1 ⟨rfl, hb⟩; obtain ⟨d0, d1, d2, d3, d4⟩ := HF.out _ hb)
  | (go_at_call 52; refine (HN'.out _ (by assumption)).mono ?_; rintro e w2 ⟨rfl, hb⟩; obtain ⟨d0, d1, d2, d3, d4⟩ := HF.out _ hb)
  | (go_at_call 64; refine (HM.out _ _ (by assumption)).mono ?_; rintro e w3 ⟨rfl, hb⟩))
 go_ret
 exact ⟨rfl, HO.out _ (by assumption)⟩
theorem gagain_any (P Q G H : Int) (a : OA) (n cap : Nat) (y u v r : Int) (w : World) (h4 : Four P Q G H) (hr : Righ P Q G) (hy : U64 y) (hu : U64 u) (hv : U64 v) (hrr : U64 r) :
  Calls prog 53 #[gv P Q G H a n cap, .int .u64 y, pv u v, .int .u64 r] w fun e w' => e = .returned (pv (mulI u (expI P Q G r) P) (mulI v (expI P Q y r) P)) /\ Old w w' := by
 have HE : Hid (∀ x e wx, U64 x -> U64 e -> Lain w [(gc P Q G H a n cap, 25), (pc u v, 69), (pc 0 0, 69)] wx -> Calls prog 65 #[gv P Q G H a n cap, .int .u64 x, .int .u64 e] wx fun r w' => r = .returned (.int .u64 (expI P Q x e)) /\ Lain w [(gc P Q G H a n cap, 25), (pc u v, 69), (pc 0 0, 69)] w') :=
  fun x e wx hx he hb => (za8 P Q G H x e a n cap wx h4 hr hx.1 hx.2 he.1 he.2).mono fun r w' ⟨h, k⟩ => ⟨h, hb.then k⟩
 have HP : Hid (∀ x y t wx, U64 x -> U64 y -> Lain w [(gc P Q G H a n cap, 25), (pc u v, 69), (pc 0 0, 69)] wx -> Calls prog 64 #[gv P Q G H a n cap, .slice (some ⟨wx.heap.size, 0, none⟩) 2 2] (wx.alloc (.cells #[.int .u64 x, .int .u64 y] t)) fun r w' => r = .returned (.int .u64 (mulI x y P)) /\ Lain w [(gc P Q G H a n cap, 25), (pc u v, 69), (pc 0 0, 69)] w') :=
  fun x y t wx hx hy hb => (zcl P Q G H a n cap _ 2 2 _ _ h4 hr (by decide) (by decide) (zdT wx x y t hx hy)).mono fun r w' ⟨h, k⟩ => ⟨by rw [h, prod5 hr], hb.then (((Old.refl _).alloc _).trans k)⟩
 have HD : Hid (∀ wx, Lain w [(gc P Q G H a n cap, 25), (pc u v, 69), (pc 0 0, 69)] wx -> Lain w [(gc P Q G H a n cap, 25), (pc u v, 69), (pc 0 0, 69)] wx.drew) := fun _ h => h.then (Old.refl _).drew
 have HO : Hid (∀ wx, Lain w [(gc P Q G H a n cap, 25), (pc u v, 69), (pc 0 0, 69)] wx -> Old w wx) := fun _ h => h.old
 have hG : U64 G := ⟨h4.g0, h4.g1⟩
 have HF : Hid (∀ w', Lain w [(gc P Q G H a n cap, 25), (pc u v, 69), (pc 0 0, 69)] w' -> G6 w' (w.heap.size) P Q G H (.slice a n cap) (w'.cell? ⟨w.heap.size + 1, 0, none⟩ = some (.int .u64 u) /\ w'.cell? ⟨w.heap.size + 1, 1, none⟩ = some (.int .u64 v))) := fun _ h => ⟨h.cell 0 0 (by simp) rfl, h.cell 0 1 (by simp) rfl, h.cell 0 2 (by simp) rfl, h.cell 0 3 (by simp) rfl, h.cell 0 4 (by simp) rfl, h.cell 1 0 (by simp) rfl, h.cell 1 1 (by simp) rfl⟩
 have HG : Hid (∀ w0, Lain w [(gc P Q G H a n cap, 25), (pc u v, 69), (pc 0 0, 69)] w0 -> ∀ x y, (fun w' => w'.cell? ⟨w.heap.size, 0, none⟩ = some (.int .u64 P) /\ w'.cell? ⟨w.heap.size, 1, none⟩ = some (.int .u64 Q) /\ w'.cell? ⟨w.heap.size, 2, none⟩ = some (.int .u64 G) /\ w'.cell? ⟨w.heap.size, 3, none⟩ = some (.int .u64 H) /\ w'.cell? ⟨w.heap.size, 4, none⟩ = some (.slice a n cap) /\ w'.cell? ⟨w.heap.size + 1, 0, none⟩ = some (.int .u64 u) /\ w'.cell? ⟨w.heap.size + 1, 1, none⟩ = some (.int .u64 v)) ((w0.setCell ⟨w.heap.size + 1 + 1, 0, none⟩ x).setCell ⟨w.heap.size + 1 + 1, 1, none⟩ y)) := fun w0 h x y => by
  obtain ⟨c0, c1, c2, c3, c4, c5, c6⟩ := HF.out _ h
  exact ⟨zaE (by omega) (zaE (by omega) c0), zaE (by omega) (zaE (by omega) c1), zaE (by omega) (zaE (by omega) c2), zaE (by omega) (zaE (by omega) c3), zaE (by omega) (zaE (by omega) c4), zaE (by omega) (zaE (by omega) c5), zaE (by omega) (zaE (by omega) c6)⟩
 have HZ := lain3 w (gc P Q G H a n cap) (pc u v) (pc 0 0) 25 69 69
 clear h4 hr
 go_enter func53, ntmps53
 go_upto_region 1 with fail
 generalize hW : ((w.alloc (.cells (gc P Q G H a n cap) 25)).alloc (.cells (pc u v) 69)).alloc (.cells (pc 0 0) 69) = W at *
 clear hW
 obtain ⟨d0, d1, d2, d3, d4, e0, e1⟩ := HF.out _ HZ
 go_region_held3 (fun w' => w'.cell? ⟨w.heap.size, 0, none⟩ = some (.int .u64 P) /\ w'.cell? ⟨w.heap.size, 1, none⟩ = some (.int .u64 Q) /\ w'.cell? ⟨w.heap.size, 2, none⟩ = some (.int .u64 G) /\ w'.cell? ⟨w.heap.size, 3, none⟩ = some (.int .u64 H) /\ w'.cell? ⟨w.heap.size, 4, none⟩ = some (.slice a n cap) /\ w'.cell? ⟨w.heap.size + 1, 0, none⟩ = some (.int .u64 u) /\ w'.cell? ⟨w.heap.size + 1, 1, none⟩ = some (.int .u64 v)) (first | exact HF.out _ (by assumption) | (go_keep; done) | (and_intros <;> exact zaE (by omega) (zaE (by omega) (by assumption)))) (first
  | (go_at_call 65; refine (HE.out _ _ _ (by assumption) (by assumption) (by first | assumption | exact HD.out _ (by assumption))).mono ?_; rintro e w1 ⟨rfl, hb⟩)
  | (go_at_call 64; refine (HP.out _ _ _ _ (by assumption) (by first | assumption | exact zaz _ _ _ _) (by first | assumption | exact HD.out _ (by assumption))).mono ?_; rintro e w2 ⟨rfl, hb⟩; have hrow := hb.row 2 (by simp); have q0 : _ = some (Value.int .u64 0) := Y0 hrow; have q1 : _ = some (Value.int .u64 0) := Y1 hrow; have f0 := zac hrow 0; have f1 := zac hrow 1; clear hrow; obtain ⟨s0, s1, s2, s3, s4, s5, s6⟩ := HF.out _ hb))
 have HL : Hid (Old w w2) := hb.old
 have HR : Hid (w2.heap[w.heap.size + 2]? = some (.cells #[.int .u64 0, .int .u64 0] 69 (0, 0))) := hb.row 2 (by simp)
 go_wp2_with fail
 exact bodyPost_ret (result5 (b := w.heap.size + 2) rfl rfl (zaW HR.out U69 zcp)) rfl ⟨rfl, (HL.out.setCell (by simp; omega) _).setCell (by simp; omega) _⟩
def sN : Nat -> Int | 0 => 5 | 1 => 11 | 2 => 23 | 3 => 1013 | _ => 2027
def sA : Nat -> Int | 0 => 2 | 1 => 2 | 2 => 5 | 3 => 3 | _ => 2
def sL : Nat -> Nat | 0 => 1 | 1 => 2 | 2 => 2 | 3 => 3 | _ => 2
def sF : Nat -> Nat -> Int | 0, _ => 2 | 1, 0 => 2 | 1, _ => 5 | 2, 0 => 2 | 2, _ => 11 | 3, 0 => 2 | 3, 1 => 11 | 3, _ => 23 | _, 0 => 2 | _, _ => 1013
def sP (k i : Nat) : Option Addr := some ⟨k + 1 + i, 0, none⟩
theorem small_right : zcc 2027 1013 4 9 sN sA sF sL 5 = true := by decide +kernel
theorem zdq : Righ 2027 1013 4 := zff (fun i _ => by unfold sA; split <;> decide) small_right
def sW (w : World) (g : Obj) (t t' : TypeId) : World := ((((((w.alloc g).alloc (.cells #[.int .u64 2] t)).alloc (.cells #[.int .u64 2, .int .u64 5] t)).alloc (.cells #[.int .u64 2, .int .u64 11] t)).alloc (.cells #[.int .u64 2, .int .u64 11, .int .u64 23] t)).alloc (.cells #[.int .u64 2, .int .u64 1013] t)).alloc (.cells #[.int .u64 5, .int .u64 2, .slice (some ⟨w.heap.size + 1, 0, none⟩) 1 1, .int .u64 11, .int .u64 2, .slice (some ⟨w.heap.size + 1 + 1, 0, none⟩) 2 2, .int .u64 23, .int .u64 5, .slice (some ⟨w.heap.size + 1 + 1 + 1, 0, none⟩) 2 2, .int .u64 1013, .int .u64 3, .slice (some ⟨w.heap.size + 1 + 1 + 1 + 1, 0, none⟩) 3 3, .int .u64 2027, .int .u64 2, .slice (some ⟨w.heap.size + 1 + 1 + 1 + 1 + 1, 0, none⟩) 2 2] t')
theorem sW_old (w : World) (g : Obj) (t t' : TypeId) : Old (w.alloc g) (sW w g t t') := ((((((Old.refl _).alloc _).alloc _).alloc _).alloc _).alloc _).alloc _
theorem zdE (w : World) (g : Obj) (t t' : TypeId) : (sW w g t t').heap.size = w.heap.size + 7 := by simp [sW]
theorem zbB (w : World) (g : Obj) (t t' : TypeId) (i : Nat) : (sW w g t t').cell? ⟨w.heap.size + 1 + 1 + 1 + 1 + 1 + 1, i, none⟩ = (#[.int .u64 5, .int .u64 2, .slice (some ⟨w.heap.size + 1, 0, none⟩) 1 1, .int .u64 11, .int .u64 2, .slice (some ⟨w.heap.size + 1 + 1, 0, none⟩) 2 2, .int .u64 23, .int .u64 5, .slice (some ⟨w.heap.size + 1 + 1 + 1, 0, none⟩) 2 2, .int .u64 1013, .int .u64 3, .slice (some ⟨w.heap.size + 1 + 1 + 1 + 1, 0, none⟩) 3 3, .int .u64 2027, .int .u64 2, .slice (some ⟨w.heap.size + 1 + 1 + 1 + 1 + 1, 0, none⟩) 2 2] : Array Value)[i]? := by
 unfold sW
 rw [World.cell?_alloc_at _ _ _ _ (by simp)]
theorem sW_0 (w : World) (g : Obj) (t t' : TypeId) (i : Nat) : (sW w g t t').cell? ⟨w.heap.size + 1, i, none⟩ = (#[.int .u64 2] : Array Value)[i]? := by
 unfold sW
 rw [World.cell?_alloc_past _ _ _ (by simp <;> omega), World.cell?_alloc_past _ _ _ (by simp <;> omega), World.cell?_alloc_past _ _ _ (by simp <;> omega), World.cell?_alloc_past _ _ _ (by simp <;> omega), World.cell?_alloc_past _ _ _ (by simp <;> omega), World.cell?_alloc_at _ _ _ _ (by simp)]
theorem sW_1 (w : World) (g : Obj) (t t' : TypeId) (i : Nat) : (sW w g t t').cell? ⟨w.heap.size + 1 + 1, i, none⟩ = (#[.int .u64 2, .int .u64 5] : Array Value)[i]? := by
 unfold sW
 rw [World.cell?_alloc_past _ _ _ (by simp <;> omega), World.cell?_alloc_past _ _ _ (by simp <;> omega), World.cell?_alloc_past _ _ _ (by simp <;> omega), World.cell?_alloc_past _ _ _ (by simp <;> omega), World.cell?_alloc_at _ _ _ _ (by simp)]
theorem sW_2 (w : World) (g : Obj) (t t' : TypeId) (i : Nat) : (sW w g t t').cell? ⟨w.heap.size + 1 + 1 + 1, i, none⟩ = (#[.int .u64 2, .int .u64 11] : Array Value)[i]? := by
 unfold sW
 rw [World.cell?_alloc_past _ _ _ (by simp <;> omega), World.cell?_alloc_past _ _ _ (by simp <;> omega), World.cell?_alloc_past _ _ _ (by simp <;> omega), World.cell?_alloc_at _ _ _ _ (by simp)]
theorem sW_3 (w : World) (g : Obj) (t t' : TypeId) (i : Nat) : (sW w g t t').cell? ⟨w.heap.size + 1 + 1 + 1 + 1, i, none⟩ = (#[.int .u64 2, .int .u64 11, .int .u64 23] : Array Value)[i]? := by
 unfold sW
 rw [World.cell?_alloc_past _ _ _ (by simp <;> omega), World.cell?_alloc_past _ _ _ (by simp <;> omega), World.cell?_alloc_at _ _ _ _ (by simp)]
theorem sW_4 (w : World) (g : Obj) (t t' : TypeId) (i : Nat) : (sW w g t t').cell? ⟨w.heap.size + 1 + 1 + 1 + 1 + 1, i, none⟩ = (#[.int .u64 2, .int .u64 1013] : Array Value)[i]? := by
 unfold sW
 rw [World.cell?_alloc_past _ _ _ (by simp <;> omega), World.cell?_alloc_at _ _ _ _ (by simp)]
theorem sW_rows (w : World) (g : Obj) (t t' : TypeId) : RowsIn (sW w g t t') (some ⟨w.heap.size + 1 + 1 + 1 + 1 + 1 + 1, 0, none⟩) 5 sN sA (sP w.heap.size) sL sL sF := by
 refine Or.inr ⟨_, _, rfl, by rw [zdE]; omega, fun i hi => ?_⟩
 match i, hi with
 | 0, _ =>
  refine ⟨(zbB ..).trans rfl, (zbB ..).trans rfl, (zbB ..).trans rfl, by decide, by decide, by decide, by decide, Nat.le_refl _, by decide, Or.inr ⟨_, _, rfl, by rw [zdE]; omega, fun j hj => ?_⟩⟩
  match j, hj with
  | 0, _ => exact ⟨(sW_0 ..).trans rfl, by decide, by decide⟩
 | 1, _ =>
  refine ⟨(zbB ..).trans rfl, (zbB ..).trans rfl, (zbB ..).trans rfl, by decide, by decide, by decide, by decide, Nat.le_refl _, by decide, Or.inr ⟨_, _, rfl, by rw [zdE]; omega, fun j hj => ?_⟩⟩
  match j, hj with
  | 0, _ => exact ⟨(sW_1 ..).trans rfl, by decide, by decide⟩
  | 1, _ => exact ⟨(sW_1 ..).trans rfl, by decide, by decide⟩
 | 2, _ =>
  refine ⟨(zbB ..).trans rfl, (zbB ..).trans rfl, (zbB ..).trans rfl, by decide, by decide, by decide, by decide, Nat.le_refl _, by decide, Or.inr ⟨_, _, rfl, by rw [zdE]; omega, fun j hj => ?_⟩⟩
  match j, hj with
  | 0, _ => exact ⟨(sW_2 ..).trans rfl, by decide, by decide⟩
  | 1, _ => exact ⟨(sW_2 ..).trans rfl, by decide, by decide⟩
 | 3, _ =>
  refine ⟨(zbB ..).trans rfl, (zbB ..).trans rfl, (zbB ..).trans rfl, by decide, by decide, by decide, by decide, Nat.le_refl _, by decide, Or.inr ⟨_, _, rfl, by rw [zdE]; omega, fun j hj => ?_⟩⟩
  match j, hj with
  | 0, _ => exact ⟨(sW_3 ..).trans rfl, by decide, by decide⟩
  | 1, _ => exact ⟨(sW_3 ..).trans rfl, by decide, by decide⟩
  | 2, _ => exact ⟨(sW_3 ..).trans rfl, by decide, by decide⟩
 | 4, _ =>
  refine ⟨(zbB ..).trans rfl, (zbB ..).trans rfl, (zbB ..).trans rfl, by decide, by decide, by decide, by decide, Nat.le_refl _, by decide, Or.inr ⟨_, _, rfl, by rw [zdE]; omega, fun j hj => ?_⟩⟩
  match j, hj with
  | 0, _ => exact ⟨(sW_4 ..).trans rfl, by decide, by decide⟩
  | 1, _ => exact ⟨(sW_4 ..).trans rfl, by decide, by decide⟩
theorem result_cell {P : Program} {fn : Func} {s : Tmp} {t : TypeId} {tmps : Array Value} {w : World} {b : Nat} {v : Value} (h : fn.results = #[.cell s t]) (hp : tmps[s]? = some (.pointer (some ⟨b, 0, none⟩))) (hl : (loadVar t ⟨b, 0, none⟩).run P w = .ok v w) : (results fn tmps).run P w = .ok v w := by
 simp [results, h, hp, asAddr, hl]
theorem small4_any (w : World) : Calls prog 46 #[] w fun e w' => ∃ a FA, e = .returned (gv 2027 1013 4 9 a 5 5) /\ RowsIn w' a 5 sN sA FA sL sL sF /\ Old w w' := by
 have hi : (prog.info? 25).map (·.size) = some 5 := by kernel_rfl
 go_enter func46, ntmps46
 go_wp2_with fail
 refine bodyPost_ret (v := gv 2027 1013 4 9 (some ⟨w.heap.size + 1 + 1 + 1 + 1 + 1 + 1, 0, none⟩) 5 5) (result_cell (b := w.heap.size) rfl rfl (run_loadVar_row _ _ 25 _ _ (0, 0) _ ?_ U25 rfl hi)) rfl ⟨_, _, rfl, sW_rows w _ _ _, ((Old.refl w).alloc _).trans (sW_old w _ _ _)⟩
 refine ((sW_old w _ _ _).block _ (by simp)).trans ?_
 unfold World.alloc
 simp
theorem group5_any (P Q G H : Int) (a : OA) (n cap : Nat) (N A : NI) (FA : Nat -> Option Addr) (L C : Nat -> Nat) (F : NN) (w : World) (h4 : Four P Q G H) (hin : RowsIn w a n N A FA L C F) :
  Calls prog 13 #[gv P Q G H a n cap] w fun e w' => e = .returned (.bool (fewB L n && zcc P Q G H N A F L n)) /\ Old w w' := by
 have HI : Hid (RowsIn w a n N A FA L C F) := hin
 have HR : Hid (n <= 80 -> ∀ wx, Beh w P Q G H a n cap wx -> Calls prog 48 #[gv P Q G H a n cap] wx fun e w' => e = .returned (.bool (zcc P Q G H N A F L n)) /\ Beh w P Q G H a n cap w') := fun hn wx hb => (rright_any P Q G H a n cap N A FA L C F wx hn (hin.old hb.old) h4.q0 h4.q1 h4.g1 h4.h1).mono fun e w' ⟨h, k⟩ => ⟨h, hb.then k⟩
 have HF : Hid (∀ wx, Beh w P Q G H a n cap wx -> G5 wx (w.heap.size) P Q G H (.slice a n cap)) := fun _ hb => ⟨hb.cell rfl, hb.cell rfl, hb.cell rfl, hb.cell rfl, hb.cell rfl⟩
 clear hin h4
 generalize zcc P Q G H N A F L n = R at *
 by_cases h80 : 80 < n
 ·have HN : Hid (fewB L n = false) := no_of fun hc => by have := (fewB_iff.1 hc).1; omega
  go_enter func13, ntmps13
  go_wp2_with fail
  go_ret
  exact ⟨zad (by rw [HN.out]; rfl), (Old.refl _).alloc _⟩
 go_enter func13, ntmps13
 go_wp2_with fail
 go_loopw [12] (fun iv wx => ∃ i : Nat, iv = .int .i64 (i : Int) /\ i <= n /\ Hid (Beh w P Q G H a n cap wx) /\ Hid (∀ j, j < i -> L j <= 40)) (fun iv _ => n - (intOf iv).toNat)
 case atStart => exact ⟨0, rfl, Nat.zero_le _, Beh.new .., fun j hj => by omega⟩
 case round =>
  obtain ⟨i, rfl, hi, HB, HJ⟩ := hrel
  by_cases hlt : i < n
  ·rcases HI.out.old HB.out.old with h0 | ⟨b, off, rfl, hb, hr⟩
   ·omega
   have r := hr i hlt
   clear hr
   obtain ⟨c0, c1, c2⟩ := (⟨r.c0, r.c1, r.c2⟩ : _ /\ _ /\ _)
   clear r
   by_cases h40 : 40 < L i
   ·have HN : Hid (fewB L n = false) := no_of fun hc => by have := (fewB_iff.1 hc).2 i hlt; omega
    go_wp2_with fail
    go_ret
    exact ⟨zad (by rw [HN.out]; rfl), HB.out.old.alloc _⟩
   ·have HM : Hid (L i <= 40) := Nat.le_of_not_lt h40
    go_wp2_with fail
    go_roundw
    case rel => exact ⟨i + 1, zab i, by omega, HB.out.then ((Old.refl _).alloc _), zav HJ.out HM.out⟩
    case measure => simp [intOf]; omega
  ·have he : i = n := by omega
   subst he
   have HN : Hid (fewB L i = true) := fewB_iff.2 ⟨by omega, HJ.out⟩
   have HR' : Hid (∀ wx, Beh w P Q G H a i cap wx -> Calls prog 48 #[gv P Q G H a i cap] wx fun e w' => e = .returned (.bool R) /\ Beh w P Q G H a i cap w') := HR.out (by omega)
   obtain ⟨d0, d1, d2, d3, d4⟩ := HF.out _ HB.out
   go_wp2_with (go_at_call 48; refine (HR'.out _ HB.out).mono ?_; rintro e w1 ⟨rfl, hb1⟩)
   go_ret
   exact ⟨zad (by rw [HN.out]; rfl), hb1.old⟩
theorem four_sm : Four 2027 1013 4 9 := ⟨by decide, by decide, by decide, by decide, by decide, by decide, by decide, by decide⟩
theorem zbj : (prog.info? 22).map (fun i => (i.zero, i.size, i.bytes)) = some (some (.int .u64 0), 1, 8) := by kernel_rfl
def Nums (w : World) (base : Nat) (v : Value) (k : Nat) (F : NI) : Prop := w.ownsRow base 22 1 v k ((List.range k).map fun i => Value.int .u64 (F i))
theorem zaD (w : World) (base : Nat) (F : NI) : Nums w base (.slice none 0 0) 0 F := World.ownsRow_nil _ _ _ _
theorem Nums.old {w w' : World} {base k : Nat} {v : Value} {F : NI} (h : Nums w base v k F) (ho : Old w w') : Nums w' base v k F := by
 refine ⟨h.1, ?_⟩
 rcases h.2 with hn | ⟨g, cap, cur, hv, hb, hg, rest⟩
 ·exact Or.inl hn
 ·exact Or.inr ⟨g, cap, cur, hv, hb, (ho.block g (Array.getElem?_eq_some_iff.1 hg).1).trans hg, rest⟩
theorem Nums.facs {w : World} {base k : Nat} {v : Value} {F : NI} (h : Nums w base v k F) (hF : ∀ i, i < k -> U64 (F i)) : ∃ b c, v = .slice b k c /\ k <= c /\ FacsIn w b k F := by
 have h' := h
 rcases h.2 with ⟨rfl, rfl⟩ | ⟨g, cap, cur, rfl, hb, hg, hc, _⟩
 ·exact ⟨none, 0, rfl, Nat.le_refl _, Or.inl rfl⟩
 ·refine ⟨some ⟨g, 0, none⟩, cap, rfl, hc, Or.inr ⟨g, 0, rfl, (Array.getElem?_eq_some_iff.1 hg).1, fun j hj => ⟨?_, hF j hj⟩⟩⟩
  rw [Nat.zero_add, World.ownsRow.cellAt h' j (by omega)]
  simp [List.getElem?_map, List.getElem?_range hj]
theorem Nums.app {w : World} {base k : Nat} {v : Value} {F : NI} {x : Int} (h : w.ownsRow base 22 1 v (k + 1) ((List.range k).map (fun i => Value.int .u64 (F i)) ++ [.int .u64 x])) (hx : F k = x) : Nums w base v (k + 1) F := by
 unfold Nums
 rw [List.range_succ, List.map_append]
 simpa [hx] using h
theorem Old.grown {a w w' : World} {row : Option Nat} (h : Old a w) (hg : w.grownBy w' row) (hr : ∀ k, row = some k -> a.heap.size <= k) : Old a w' :=
 ⟨hg.os.trans h.os, hg.output.trans h.output, Nat.le_trans h.size hg.size, fun k hk => (hg.block k (Nat.lt_of_lt_of_le hk h.size) (fun e => by have := hr k e.symm; omega)).trans (h.block k hk)⟩
theorem Nums.grown {a w w' : World} {k : Nat} {v : Value} {F : NI} {o : Obj} (h : Nums w a.heap.size v k F) (ho : Old a w) (hg : (w.alloc o).grownBy w' v.ownBlock) : Old a w' :=
 (ho.alloc o).grown hg fun k hk => (World.ownsRow.lt h k hk).1
theorem facs_tail {w : World} {b off l : Nat} {D : NI} (h : FacsIn w (some ⟨b, off, none⟩) l D) : FacsIn w (some ⟨b, off + 1, none⟩) (l - 1) (fun i => D (i + 1)) := by
 rcases h with h | ⟨_, _, hq, hb, hr⟩
 ·exact Or.inl (by omega)
 ·cases hq
  exact Or.inr ⟨b, off + 1, rfl, hb, fun j hj => by have := hr (j + 1) (by omega); rwa [<- Nat.add_assoc, Nat.add_right_comm] at this⟩
theorem FacsIn.u64 {w : World} {b : OA} {l : Nat} {D : NI} (h : FacsIn w b l D) : ∀ i, i < l -> U64 (D i) := fun i hi => by
 rcases h with h0 | ⟨_, _, _, _, h⟩
 ·omega
 ·exact (h i hi).2
structure Pd (w : World) (l : List (Array Value × TypeId)) (b : Nat) (u v : Int) (W : World) : Prop where
 lain : Lain w l W
 far : w.heap.size + l.length <= b
 row : W.heap[b]? = some (.cells #[.int .u64 u, .int .u64 v] 69 (0, 0))
end
section
def imI (P Q : Int) (B W : NI) (n : Nat) : Int := prodI P (fun k => expI P Q (B k) (W k)) n
def pw (B W : NI) : Nat -> Int
 | 0 => 1
 | k + 1 => pw B W k * B k ^ (W k).toNat
theorem Righ.im_cong {P Q G : Int} (h : Righ P Q G) {B W : NI} : ∀ n, (∀ k, k < n -> inI P Q (B k) = true) -> (∀ k, k < n -> 0 <= W k) -> imI P Q B W n % P = pw B W n % P
 | 0, _, _ => rfl
 | n + 1, hB, hW => by
  show mulI (imI P Q B W n) (expI P Q (B n) (W n)) P % P = pw B W n * B n ^ (W n).toNat % P
  exact zbd h.ok (h.im_cong n (fun k hk => hB k (by omega)) (fun k hk => hW k (by omega))) (h.exp_cong (hB n (by omega)) (hW n (by omega)))
theorem Righ.im_in {P Q G : Int} (h : Righ P Q G) {B W : NI} (n : Nat) (hB : ∀ k, k < n -> inI P Q (B k) = true) : inI P Q (imI P Q B W n) = true :=
 h.prod_in n fun k hk => h.exp_in (hB k hk)
theorem Righ.same {P Q G a b : Int} (h : Righ P Q G) (ha : inI P Q a = true) (hb : inI P Q b = true) (he : a % P = b % P) : a = b := by
 rwa [h.self ha, h.self hb] at he
theorem Righ.okq {P Q G : Int} (h : Righ P Q G) : okM Q = true := by
 have := h.q0; have := h.q1
 exact zfd (by omega) (by omega)
theorem exp_mod {P Q x a b : Int} (h : a % Q = b % Q) : expI P Q x a = expI P Q x b := by unfold expI; rw [h]
theorem im_mod {P Q : Int} {B V W : NI} : ∀ n, (∀ k, k < n -> V k % Q = W k % Q) -> imI P Q B V n = imI P Q B W n
 | 0, _ => rfl
 | n + 1, h => by
  show mulI (imI P Q B V n) (expI P Q (B n) (V n)) P = mulI (imI P Q B W n) (expI P Q (B n) (W n)) P
  rw [im_mod n (fun k hk => h k (by omega)), exp_mod (h n (by omega))]
def ansI (Q e w d : Int) : Int := addI d (mulI e w Q) Q
theorem ans_mod {Q e w d : Int} (h : okM Q = true) : ansI Q e w d % Q = (d + e * w) % Q := by
 unfold ansI
 rw [za4 h, zak, zaw h]
 exact zbJ rfl (zak _ _)
theorem pw_ans {e : Int} {B W D Z : NI} (he : 0 <= e) : ∀ n, (∀ k, k < n -> 0 <= W k) -> (∀ k, k < n -> 0 <= D k) -> (∀ k, k < n -> Z k = D k + e * W k) -> pw B Z n = pw B D n * pw B W n ^ e.toNat
 | 0, _, _, _ => by show (1 : Int) = 1 * 1 ^ e.toNat; rw [Int.one_pow, Int.one_mul]
 | n + 1, hW, hD, hZ => by
  show pw B Z n * B n ^ (Z n).toNat = pw B D n * B n ^ (D n).toNat * (pw B W n * B n ^ (W n).toNat) ^ e.toNat
  have hw := hW n (by omega)
  have hd := hD n (by omega)
  have hew : 0 <= e * W n := Int.mul_nonneg he hw
  rw [pw_ans he n (fun k hk => hW k (by omega)) (fun k hk => hD k (by omega)) (fun k hk => hZ k (by omega)), hZ n (by omega), Int.toNat_add hd hew, Int.toNat_mul he hw, Int.pow_add, Nat.mul_comm, Int.pow_mul, Int.mul_pow]
  simp only [Int.mul_assoc, Int.mul_comm, Int.mul_left_comm]
theorem Righ.im_ans {P Q G e : Int} (h : Righ P Q G) {B W D : NI} (n : Nat) (hB : ∀ k, k < n -> inI P Q (B k) = true) (hW : ∀ k, k < n -> 0 <= W k) (hD : ∀ k, k < n -> 0 <= D k) (he : 0 <= e) :
  imI P Q B (fun k => ansI Q e (W k) (D k)) n = mulI (imI P Q B D n) (expI P Q (imI P Q B W n) e) P := by
 rw [im_mod (W := fun k => D k + e * W k) n (fun k _ => ans_mod h.okq)]
 refine h.same (h.im_in n hB) (h.mul_in (h.im_in n hB) (h.exp_in (h.im_in n hB))) ?_
 rw [h.im_cong n hB (fun k hk => Int.add_nonneg (hD k hk) (Int.mul_nonneg he (hW k hk))), zbd h.ok (h.im_cong n hB hD) ((h.exp_cong (h.im_in n hB) he).trans (zaX (h.im_cong n hB hW) _)), pw_ans he n hW hD (fun _ _ => rfl)]
theorem zcS (a b m : Int) : 0 <= subI a b m := (zec a b m).1
theorem sub_back {a b m : Int} (h : okM m = true) : (subI a b m + b) % m = a % m := by
 rw [zb7 h, zbJ (zak (a - b) m) rfl, Int.sub_add_cancel]
end
end Go.Proofs.YtlnmjbbpenhdbaaGreat
