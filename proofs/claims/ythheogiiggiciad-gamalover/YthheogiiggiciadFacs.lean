/-
  The contracts of prime.partsWhole, factorsStand and hasFullOrder at this seat.
-/
import Derived.Test.YthheogiiggiciadNamed
import Derived.Test.YthheogiiggiciadPows
namespace Go.Proofs.Ythheogiiggiciad
open Go.RowKit

theorem parts_no {F : Nat → Int} {L i : Nat} {s : Int} (hi : i < L) (h : s % F i ≠ 0) : partsG F (L - i) i s = false := by
  rw [show L - i = (L - (i + 1)) + 1 by omega]
  simp [partsG, h]
theorem parts_yes {F : Nat → Int} {L i : Nat} {s : Int} (hi : i < L) (h : s % F i = 0) : partsG F (L - i) i s = partsG F (L - (i + 1)) (i + 1) (stripI (F i) s) := by
  rw [show L - i = (L - (i + 1)) + 1 by omega]
  simp [partsG, h]
theorem parts_end {F : Nat → Int} {L : Nat} {s : Int} : partsG F (L - L) L s = (s == 1) := by
  rw [Nat.sub_self]
  rfl

set_option maxHeartbeats 1000000 in
theorem parts_any (r : Int) (fa : Option Addr) (L cap : Nat) (F : Nat → Int) (w : World) (r0 : 1 ≤ r) (r1 : r ≤ 18446744073709551615) (hL : L ≤ 16) (hF : ∀ j, j < L → 2 ≤ F j) (hin : FacsIn w fa L F) :
    Calls Try.prog 69 #[.int .u64 r, .slice fa L cap] w fun e w' => e = .returned (.bool (partsG F L 0 r)) ∧ w' = w := by
  have HI : Hid (FacsIn w fa L F) := hin
  have HF : Hid (∀ j, j < L → 2 ≤ F j) := hF
  clear hin hF
  go_enter Try.func69, Try.ntmps69
  go_wp2_with fail
  go_loop [5, 11] (fun rv iv => ∃ (s : Int) (i : Nat), rv = .int .u64 s ∧ iv = .int .i64 (i : Int) ∧ i ≤ L ∧ 1 ≤ s ∧ s ≤ r ∧ Hid (partsG F (L - i) i s = partsG F L 0 r)) (fun _ iv => L - (intOf iv).toNat)
  case atStart => exact ⟨r, 0, rfl, rfl, Nat.zero_le _, r0, Int.le_refl _, rfl⟩
  case round =>
    obtain ⟨s, i, rfl, rfl, hi, s0, s1, HP⟩ := hrel
    by_cases hlt : i < L
    · rcases HI.out with h0 | ⟨b, off, rfl, hb, hr⟩
      · omega
      obtain ⟨hc, f0, f1⟩ := hr i hlt
      clear hr
      have f2 := HF.out i hlt
      by_cases hz : s % F i = 0
      · have HY : Hid (partsG F (L - (i + 1)) (i + 1) (stripI (F i) s) = partsG F L 0 r) := by rw [← parts_yes hlt hz]; exact HP.out
        have HZ : Hid (s % F i = 0) := hz
        clear HP
        go_wp2_with fail
        go_loop [5] (fun tv => ∃ t : Int, tv = .int .u64 t ∧ 1 ≤ t ∧ t ≤ s ∧ Hid (stripI (F i) t = stripI (F i) s)) (fun tv => (intOf tv).toNat)
        case atStart => exact ⟨s, rfl, s0, Int.le_refl _, rfl⟩
        case round =>
          obtain ⟨t, rfl, t0, t1, HT⟩ := hrel
          clear hz
          by_cases hz : t % F i = 0
          · obtain ⟨q0, q1⟩ := quo_bd f2 t0 hz
            have HU : Hid (stripI (F i) (t / F i) = stripI (F i) s) := by rw [← stripI_step f2 t0 hz]; exact HT.out
            go_wp2
            go_round
            case rel => exact ⟨_, rfl, q0, by omega, HU⟩
            case measure => simp [intOf]; omega
          · have HU : Hid (partsG F (L - (i + 1)) (i + 1) t = partsG F L 0 r) := by
              have e := HT.out
              rw [stripI_stop t0 hz] at e
              rw [e]
              exact HY.out
            go_wp2
            go_round
            case rel => exact ⟨t, i + 1, rfl, idx_next i, by omega, t0, by omega, HU⟩
            case measure => simp [intOf]; omega
      · have HY : Hid (partsG F L 0 r = false) := by rw [← HP.out]; exact parts_no hlt hz
        go_wp2
        go_ret
        exact ⟨ret_bool HY.out.symm, rfl⟩
    · have he : i = L := by omega
      subst he
      have HY : Hid (partsG F i 0 r = (s == 1)) := by rw [← HP.out]; exact parts_end
      go_wp2
      go_ret
      exact ⟨ret_bool HY.out.symm, rfl⟩

theorem stand_no1 {F : Nat → Int} {L : Nat} {N : Nat → Int} {k : Nat} (h : ¬ (1 ≤ L ∧ L ≤ 16)) : standB F L N k = false := no_of fun hc => h (standB_iff.1 hc).1
theorem stand_no2 {F : Nat → Int} {L : Nat} {N : Nat → Int} {k j : Nat} (hj : j < L) (h0 : 0 < j) (h : F j ≤ F (j - 1)) : standB F L N k = false := no_of fun hc => by
  rcases ((standB_iff.1 hc).2 j hj).1 with h' | h' <;> omega
theorem stand_no3 {F : Nat → Int} {L : Nat} {N : Nat → Int} {k j : Nat} (hj : j < L) (h : namedB N k (F j) = false) : standB F L N k = false := no_of fun hc => by
  have := ((standB_iff.1 hc).2 j hj).2
  rw [h] at this
  cases this

set_option maxHeartbeats 1000000 in
theorem stand_any (fa : Option Addr) (L fcap : Nat) (F : Nat → Int) (a : Option Addr) (n cap : Nat) (N A : Nat → Int) (FA : Nat → Option Addr) (Ls Cs : Nat → Nat) (Fs : Nat → Nat → Int) (w : World) (hn : n ≤ 80) (hf : FacsIn w fa L F) (hin : RowsIn w a n N A FA Ls Cs Fs) :
    Calls Try.prog 68 #[.slice fa L fcap, .slice a n cap] w fun e w' => e = .returned (.bool (standB F L N n)) ∧ Below w.heap.size w w' := by
  have HI : Hid (RowsIn w a n N A FA Ls Cs Fs) := hin
  have HF : Hid (FacsIn w fa L F) := hf
  clear hin hf
  by_cases h1 : L < 1
  · have HN : Hid (standB F L N n = false) := stand_no1 (by omega)
    go_enter Try.func68, Try.ntmps68
    go_wp2
    go_ret
    exact ⟨ret_bool HN.out.symm, Below.refl _ _⟩
  by_cases h2 : 16 < L
  · have HN : Hid (standB F L N n = false) := stand_no1 (by omega)
    go_enter Try.func68, Try.ntmps68
    go_wp2
    go_ret
    exact ⟨ret_bool HN.out.symm, Below.refl _ _⟩
  go_enter Try.func68, Try.ntmps68
  go_wp2_with fail
  go_loopw [17] (fun iv wx => ∃ i : Nat, iv = .int .i64 (i : Int) ∧ i ≤ L ∧ Below w.heap.size w wx ∧ Hid (∀ j, j < i → (j = 0 ∨ F (j - 1) < F j) ∧ namedB N n (F j) = true)) (fun iv _ => L - (intOf iv).toNat)
  case atStart => exact ⟨0, rfl, Nat.zero_le _, Below.refl _ _, fun j hj => by omega⟩
  case round =>
    obtain ⟨i, rfl, hi, hbel, HJ⟩ := hrel
    by_cases hlt : i < L
    · rcases HF.out.below hbel with h0 | ⟨b, off, rfl, hb, hr⟩
      · omega
      have hrow := HI.out.below hbel
      have HR : Hid (RowsIn wr a n N A FA Ls Cs Fs) := hrow
      clear hrow
      obtain ⟨hc, f0, f1⟩ := hr i hlt
      by_cases hz : i = 0
      · subst hz
        clear hr
        rw [Nat.add_zero] at hc
        cases hN : namedB N n (F 0)
        · have HN : Hid (standB F L N n = false) := stand_no3 hlt hN
          go_wp2_with (go_at_call 52; refine (named_any _ _ _ _ _ _ _ _ _ _ _ f0 f1 hn HR.out).mono ?_; rintro e w' ⟨rfl, hb2⟩)
          go_ret
          exact ⟨ret_bool HN.out.symm, below_then hbel hb2⟩
        · have HM : Hid (namedB N n (F 0) = true) := hN
          go_wp2_with (go_at_call 52; refine (named_any _ _ _ _ _ _ _ _ _ _ _ f0 f1 hn HR.out).mono ?_; rintro e w' ⟨rfl, hb2⟩)
          go_roundw
          case rel => exact ⟨0 + 1, rfl, by omega, below_then hbel hb2, upto_succ HJ.out ⟨Or.inl rfl, HM.out⟩⟩
          case measure => simp [intOf]; omega
      · obtain ⟨k, rfl⟩ : ∃ k, i = k + 1 := ⟨i - 1, by omega⟩
        obtain ⟨hd, g0, g1⟩ := hr k (by omega)
        clear hr
        by_cases hle : F (k + 1) ≤ F k
        · have HN : Hid (standB F L N n = false) := stand_no2 hlt (by omega) hle
          go_wp2_with fail
          go_ret
          exact ⟨ret_bool HN.out.symm, hbel⟩
        · cases hN : namedB N n (F (k + 1))
          · have HN : Hid (standB F L N n = false) := stand_no3 hlt hN
            go_wp2_with (go_at_call 52; refine (named_any _ _ _ _ _ _ _ _ _ _ _ f0 f1 hn HR.out).mono ?_; rintro e w' ⟨rfl, hb2⟩)
            go_ret
            exact ⟨ret_bool HN.out.symm, below_then hbel hb2⟩
          · have HM : Hid ((k + 1 = 0 ∨ F (k + 1 - 1) < F (k + 1)) ∧ namedB N n (F (k + 1)) = true) := ⟨Or.inr (by simpa using hle), hN⟩
            go_wp2_with (go_at_call 52; refine (named_any _ _ _ _ _ _ _ _ _ _ _ f0 f1 hn HR.out).mono ?_; rintro e w' ⟨rfl, hb2⟩)
            go_roundw
            case rel => exact ⟨k + 1 + 1, idx_next (k + 1), by omega, below_then hbel hb2, upto_succ HJ.out HM.out⟩
            case measure => simp [intOf]; omega
    · have he : i = L := by omega
      subst he
      have HN : Hid (standB F i N n = true) := standB_iff.2 ⟨by omega, HJ.out⟩
      go_wp2_with fail
      go_ret
      exact ⟨ret_bool HN.out.symm, hbel⟩

end Go.Proofs.Ythheogiiggiciad
