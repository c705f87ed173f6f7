/-
  The contract of bits.Div64 at this seat: for a high part below the divisor it returns the quotient and the rest of the two-word number.
-/
import Derived.Test.YtmmicbdjafolpaeShelf
import Derived.Test.YtmmicbdjafolpaeMath
import Derived.WalkKit
import Derived.Deep.QuietTactic
import Derived.BigQuiet
import Derived.Deep.DeepCutAuto
import Derived.Deep.CutBlock
namespace Go.Proofs.Ytmmicbdjafolpae
open Go.RowKit
set_option maxHeartbeats 1000000 in
/-- bits.Div64 where the high part is not nought. -/
theorem div_high (hi lo y : Int) (w : World) (h0 : 1 ≤ hi) (h1 : hi < y) (h2 : 0 ≤ lo) (h3 : lo ≤ 18446744073709551615) (h4 : y ≤ 18446744073709551615) :
    Calls Try.prog 67 #[.int .u64 hi, .int .u64 lo, .int .u64 y] w fun e w' => e = .returned (.tuple #[.int .u64 ((hi * 18446744073709551616 + lo) / y), .int .u64 ((hi * 18446744073709551616 + lo) % y)]) ∧ w' = w := by
  generalize hs : (64 - (Lib.bitLen y.toNat : Int)) = s
  obtain ⟨P, Y, y1, y0, U, v1, v0, s0, s1, eP, hP, eY, eY1, eY0, eU, eV1, eV0, hY, a1, a2, a3, a4, a5, a6, a7, a8, a9, a10, hYP, hN⟩ := div_prep hi lo y s (by omega) h1 h2 h3 h4 hs
  have HE : Hid ((64 - (Lib.bitLen y.toNat : Int)) = s) := hs
  have HP : Hid (2 ^ s.toNat = P) := eP
  have HY : Hid (Y = y1 * 4294967296 + y0) := hY
  have HYP : Hid (Y = y * P) := hYP
  have HN : Hid ((U * 4294967296 + v1) * 4294967296 + v0 = (hi * 18446744073709551616 + lo) * P) := hN
  have q0 := Int.ediv_nonneg a5 (show 0 ≤ y1 by omega)
  have hY2 : Y ≤ 18446744073709551615 := by omega
  have hp : 0 < Y := by omega
  have qm1 : 0 ≤ U / y1 * y1 := Int.mul_nonneg q0 (by omega)
  have qm2 : U / y1 * y1 ≤ U := Int.ediv_mul_le _ (by omega)
  have qm3 : U / y1 ≤ U := Int.ediv_le_self _ a5
  have qm4 : U - U / y1 * y1 < y1 := by have := Int.emod_lt_of_pos U (show 0 < y1 by omega); rw [Int.emod_def, Int.mul_comm] at this; exact this
  clear eP hY hYP hN
  have E : Hid (IntKind.u64.wrap (y * 2 ^ s.toNat) = Y ∧ Y / 4294967296 = y1 ∧ bits .and .u64 Y 4294967295 = y0 ∧
      bits .or .u64 (IntKind.u64.wrap (hi * 2 ^ s.toNat)) (lo / 2 ^ (64 - s).toNat) = U ∧
      IntKind.u64.wrap (lo * 2 ^ s.toNat) / 4294967296 = v1 ∧ bits .and .u64 (IntKind.u64.wrap (lo * 2 ^ s.toNat)) 4294967295 = v0) := ⟨eY, eY1, eY0, eU, eV1, eV0⟩
  clear eY eY1 eY0 eU eV1 eV0
  go_enter Try.func67, Try.ntmps67
  go_upto_region 15 with (go_at_call 70; refine (Try.bits_LeadingZeros64 _ _ (by omega) (by omega)).mono ?_; rintro e w' ⟨rfl, rfl⟩)
  obtain ⟨eY, eY1, eY0, eU, eV1, eV0⟩ := E.out
  simp only [eY, eY1, eY0, eU, eV1, eV0]
  clear eY eY1 eY0 eU eV1 eV0 E hs
  have ⟨Q1, eQ1⟩ : ∃ Q1, (U * 4294967296 + v1) / Y = Q1 := ⟨_, rfl⟩
  have ⟨R1, eR1⟩ : ∃ R1, (U * 4294967296 + v1) % Y = R1 := ⟨_, rfl⟩
  have b1 : 0 ≤ Q1 := by rw [← eQ1]; exact digit_nn U v1 Y hp a5 a7
  have b2 : Q1 ≤ 4294967295 := by rw [← eQ1]; exact digit_lt U v1 Y hp a6 a8
  have b3 : Q1 ≤ U / y1 := by rw [← eQ1]; exact digit_start U v1 Y y1 y0 HY.out (by omega) a3 a8 a5 a7
  have G : Hid (∀ q r : Int, q * y1 + r = U → 4294967296 * r + v1 < q * y0 → Q1 + 1 ≤ q) := fun q r h h' => eQ1 ▸ digit_gt U v1 Y y1 y0 q r HY.out hp h h'
  have L : Hid (∀ q r : Int, q * y1 + r = U → q * y0 ≤ 4294967296 * r + v1 → q ≤ Q1) := fun q r h h' => eQ1 ▸ digit_le U v1 Y y1 y0 q r HY.out hp h h'
  have K : Hid (∀ q r : Int, 0 ≤ q → q * y1 + r = U → 4294967296 ≤ r → q ≤ Q1) := fun q r h0 h h' => eQ1 ▸ digit_brk U v1 Y y1 y0 q r HY.out (by omega) a3 a4 a7 h0 a6 h h'
  have HQ : Hid ((U * 4294967296 + v1) / Y = Q1) := eQ1
  clear eQ1
  go_upto_block 0 with fail
  go_cut [15, 16] (fun q r wx => q = .int .u64 Q1 ∧ (∃ ri : Int, r = .int .u64 ri) ∧ w' = wx)
  case first =>
    go_wp2_with fail
    go_loop [15, 16] (fun q r => ∃ qi ri : Int, q = .int .u64 qi ∧ r = .int .u64 ri ∧ qi * y1 + ri = U ∧ Q1 ≤ qi ∧ qi ≤ U ∧ 0 ≤ ri ∧ ri ≤ 4294967295) (fun q _ => (intOf q).toNat)
    case atStart => exact ⟨_, _, rfl, rfl, by omega, by omega, by omega, by omega, by omega⟩
    case round =>
      obtain ⟨qi, ri, rfl, rfl, hu, hQ, hqU, hr0, hr1⟩ := hrel
      have HU : Hid (qi * y1 + ri = U) := hu
      have HU' : Hid ((qi - 1) * y1 + (ri + y1) = U) := by show (qi - 1) * y1 + (ri + y1) = U; rw [Int.sub_mul]; omega
      clear hu
      by_cases hB : 4294967296 ≤ qi
      · by_cases hb : 4294967296 ≤ ri + y1
        · have hk := K.out _ _ (by omega) HU'.out hb
          have hk' : qi - 1 = Q1 := by omega
          have HK : Hid (qi - 1 = Q1) := hk'
          clear hk hk'
          go_wp2
          go_meet
          case rel => exact ⟨by rw [HK.out], ⟨_, rfl⟩, rfl⟩
        · go_wp2
          go_round
          case rel => exact ⟨_, _, rfl, rfl, HU'.out, by omega, by omega, by omega, by omega⟩
          case measure => simp [intOf]; omega
      · have pb := prod_bd qi y0 4294967295 4294967295 (by omega) (by omega) a3 a4
        obtain ⟨pb1, pb2⟩ := pb
        by_cases hc : 4294967296 * ri + v1 < qi * y0
        · have hg := G.out _ _ HU.out hc
          by_cases hb : 4294967296 ≤ ri + y1
          · have hk := K.out _ _ (by omega) HU'.out hb
            have hk' : qi - 1 = Q1 := by omega
            have HK : Hid (qi - 1 = Q1) := hk'
            clear hk hk'
            go_wp2
            go_meet
            case rel => exact ⟨by rw [HK.out], ⟨_, rfl⟩, rfl⟩
          · go_wp2
            go_round
            case rel => exact ⟨_, _, rfl, rfl, HU'.out, by omega, by omega, by omega, by omega⟩
            case measure => simp [intOf]; omega
        · have hl := L.out _ _ HU.out (by omega)
          have hk' : qi = Q1 := by omega
          have HK : Hid (qi = Q1) := hk'
          clear hl hk'
          go_wp2
          go_meet
          case rel => exact ⟨by rw [HK.out], ⟨_, rfl⟩, rfl⟩
  obtain ⟨rfl, ⟨ri, rfl⟩, rfl⟩ := hcut
  go_upto_region 22 with fail
  have eW := digit_wrap U v1 Y hp hY2
  rw [HQ.out, eR1] at eW
  simp only [eW]
  have c1 : 0 ≤ R1 := by rw [← eR1]; exact (digit_rest U v1 Y hp).2.1
  have c2 : R1 < Y := by rw [← eR1]; exact (digit_rest U v1 Y hp).2.2
  have HR : Hid ((U * 4294967296 + v1) % Y = R1) := eR1
  clear eW eR1 qm1 qm2 qm3 qm4 q0
  have q0 := Int.ediv_nonneg c1 (show 0 ≤ y1 by omega)
  have qm1 : 0 ≤ R1 / y1 * y1 := Int.mul_nonneg q0 (by omega)
  have qm2 : R1 / y1 * y1 ≤ R1 := Int.ediv_mul_le _ (by omega)
  have qm3 : R1 / y1 ≤ R1 := Int.ediv_le_self _ c1
  have qm4 : R1 - R1 / y1 * y1 < y1 := by have := Int.emod_lt_of_pos R1 (show 0 < y1 by omega); rw [Int.emod_def, Int.mul_comm] at this; exact this
  have ⟨Q0, eQ0⟩ : ∃ Q0, (R1 * 4294967296 + v0) / Y = Q0 := ⟨_, rfl⟩
  have b1z : 0 ≤ Q0 := by rw [← eQ0]; exact digit_nn R1 v0 Y hp c1 a9
  have b2z : Q0 ≤ 4294967295 := by rw [← eQ0]; exact digit_lt R1 v0 Y hp c2 a10
  have b3z : Q0 ≤ R1 / y1 := by rw [← eQ0]; exact digit_start R1 v0 Y y1 y0 HY.out (by omega) a3 a10 c1 a9
  have Gz : Hid (∀ q r : Int, q * y1 + r = R1 → 4294967296 * r + v0 < q * y0 → Q0 + 1 ≤ q) := fun q r h h' => eQ0 ▸ digit_gt R1 v0 Y y1 y0 q r HY.out hp h h'
  have Lz : Hid (∀ q r : Int, q * y1 + r = R1 → q * y0 ≤ 4294967296 * r + v0 → q ≤ Q0) := fun q r h h' => eQ0 ▸ digit_le R1 v0 Y y1 y0 q r HY.out hp h h'
  have Kz : Hid (∀ q r : Int, 0 ≤ q → q * y1 + r = R1 → 4294967296 ≤ r → q ≤ Q0) := fun q r h0 h h' => eQ0 ▸ digit_brk R1 v0 Y y1 y0 q r HY.out (by omega) a3 a4 a9 h0 c2 h h'
  have HQ0 : Hid ((R1 * 4294967296 + v0) / Y = Q0) := eQ0
  clear eQ0
  go_upto_block 2 with fail
  go_cut [18, 16] (fun q r wx => q = .int .u64 Q0 ∧ (∃ ri : Int, r = .int .u64 ri) ∧ w' = wx)
  case first =>
    go_wp2_with fail
    go_loop [18, 16] (fun q r => ∃ qi ri : Int, q = .int .u64 qi ∧ r = .int .u64 ri ∧ qi * y1 + ri = R1 ∧ Q0 ≤ qi ∧ qi ≤ R1 ∧ 0 ≤ ri ∧ ri ≤ 4294967295) (fun q _ => (intOf q).toNat)
    case atStart => exact ⟨_, _, rfl, rfl, by omega, by omega, by omega, by omega, by omega⟩
    case round =>
      obtain ⟨qi, ri, rfl, rfl, hu, hQ, hqU, hr0, hr1⟩ := hrel
      have HU : Hid (qi * y1 + ri = R1) := hu
      have HU' : Hid ((qi - 1) * y1 + (ri + y1) = R1) := by show (qi - 1) * y1 + (ri + y1) = R1; rw [Int.sub_mul]; omega
      clear hu
      by_cases hB : 4294967296 ≤ qi
      · by_cases hb : 4294967296 ≤ ri + y1
        · have hk := Kz.out _ _ (by omega) HU'.out hb
          have hk' : qi - 1 = Q0 := by omega
          have HK : Hid (qi - 1 = Q0) := hk'
          clear hk hk'
          go_wp2
          go_meet
          case rel => exact ⟨by rw [HK.out], ⟨_, rfl⟩, rfl⟩
        · go_wp2
          go_round
          case rel => exact ⟨_, _, rfl, rfl, HU'.out, by omega, by omega, by omega, by omega⟩
          case measure => simp [intOf]; omega
      · have pb := prod_bd qi y0 4294967295 4294967295 (by omega) (by omega) a3 a4
        obtain ⟨pb1, pb2⟩ := pb
        by_cases hc : 4294967296 * ri + v0 < qi * y0
        · have hg := Gz.out _ _ HU.out hc
          by_cases hb : 4294967296 ≤ ri + y1
          · have hk := Kz.out _ _ (by omega) HU'.out hb
            have hk' : qi - 1 = Q0 := by omega
            have HK : Hid (qi - 1 = Q0) := hk'
            clear hk hk'
            go_wp2
            go_meet
            case rel => exact ⟨by rw [HK.out], ⟨_, rfl⟩, rfl⟩
          · go_wp2
            go_round
            case rel => exact ⟨_, _, rfl, rfl, HU'.out, by omega, by omega, by omega, by omega⟩
            case measure => simp [intOf]; omega
        · have hl := Lz.out _ _ HU.out (by omega)
          have hk' : qi = Q0 := by omega
          have HK : Hid (qi = Q0) := hk'
          clear hl hk'
          go_wp2
          go_meet
          case rel => exact ⟨by rw [HK.out], ⟨_, rfl⟩, rfl⟩
  obtain ⟨rfl, ⟨ri, rfl⟩, rfl⟩ := hcut
  go_wp2
  have eW := digit_wrap R1 v0 Y hp hY2
  rw [HQ0.out] at eW
  have ⟨f1, f2⟩ := div_end hi lo y P Y U v1 v0 (by omega) hP HYP.out HN.out
  rw [HQ.out, HR.out, HQ0.out] at f1
  rw [HR.out] at f2
  simp only [eW, HP.out, f1, f2]
  go_ret2
  exact ⟨rfl, rfl⟩

end Go.Proofs.Ytmmicbdjafolpae
