/-
  The contracts of the document's ahead, holds, Holds and Proved (layer 2) at this seat.
-/
import Derived.Test.YtmmicbdjafolpaeRowh
import Derived.Deep.CutRange
import Derived.Deep.RegionWith
namespace Go.Proofs.Ytmmicbdjafolpae
open Go.RowKit

/-- One of the first k numbers. -/
def aheadB (N : Nat → Int) (k : Nat) (x : Int) : Bool := (List.range k).any fun i => N i == x
theorem aheadB_iff {N : Nat → Int} {k : Nat} {x : Int} : aheadB N k x = true ↔ ∃ i, i < k ∧ N i = x := by
  unfold aheadB
  simp [List.any_eq_true]
theorem aheadB_no {N : Nat → Int} {k : Nat} {x : Int} (h : ∀ i, i < k → N i ≠ x) : aheadB N k x = false := no_of fun hc => by
  obtain ⟨i, hi, he⟩ := aheadB_iff.1 hc
  exact h i hi he
theorem named_ahead {N : Nat → Int} {k : Nat} {x : Int} : namedB N k x = (x == 2 || aheadB N k x) := rfl

set_option maxHeartbeats 1000000 in
theorem ahead_any (x : Int) (k : Nat) (a : Option Addr) (n cap : Nat) (N A : Nat → Int) (FA : Nat → Option Addr) (L C : Nat → Nat) (F : Nat → Nat → Int) (w : World) (hk : k ≤ n) (hn : n ≤ 80) (hin : RowsIn w a n N A FA L C F) :
    Calls Try.prog 69 #[.slice a n cap, .int .i64 (k : Int), .int .u64 x] w fun e w' => e = .returned (.bool (aheadB N k x)) ∧ w' = w := by
  have HI : Hid (RowsIn w a n N A FA L C F) := hin
  clear hin
  go_enter Try.func69, Try.ntmps69
  go_wp2_with fail
  go_loop [7] (fun iv => ∃ i : Nat, iv = .int .i64 (i : Int) ∧ i ≤ k ∧ Hid (∀ j, j < i → N j ≠ x)) (fun iv => k - (intOf iv).toNat)
  case atStart => exact ⟨0, rfl, Nat.zero_le _, fun j hj => by omega⟩
  case round =>
    obtain ⟨i, rfl, hi, HJ⟩ := hrel
    by_cases hlt : i < k
    · rcases HI.out with h0 | ⟨b, off, rfl, hb, hr⟩
      · omega
      have c0 := (hr i (by omega)).c0
      clear hr
      by_cases hx : N i = x
      · have HX : Hid (aheadB N k x = true) := aheadB_iff.2 ⟨i, hlt, hx⟩
        go_wp2
        go_ret
        exact ⟨ret_bool HX.out.symm, rfl⟩
      · go_wp2
        go_round
        case rel => exact ⟨i + 1, idx_next i, by omega, upto_succ HJ.out hx⟩
        case measure => simp [intOf]; omega
    · have HX : Hid (aheadB N k x = false) := aheadB_no fun j hj => HJ.out j (by omega)
      go_wp2
      go_ret
      exact ⟨ret_bool HX.out.symm, rfl⟩

/-- The factor at place i is the first, or above the one ahead. -/
def Rises (F : Nat → Int) (i : Nat) : Prop := i = 0 ∨ F (i - 1) < F i

/-- What the loop of the document's holds has seen of the factors ahead of place i. -/
def Seen (n A : Int) (F : Nat → Int) (N : Nat → Int) (k : Nat) (i : Nat) : Prop := ∀ j, j < i → (Rises F j ∧ namedB N k (F j) = true) ∧ powI A ((n - 1) / F j) n ≠ 1

theorem rrow_end {n A : Int} {F : Nat → Int} {L : Nat} {N : Nat → Int} {k : Nat} {s : Int} (h0 : 3 ≤ n) (h1 : n ≤ 4611686018427387904) (hL : 1 ≤ L ∧ L ≤ 16) (hs : Seen n A F N k L) (hp : partsG F (L - L) L s = partsG F L 0 (n - 1)) :
    rowB n A F L N k = ((s == 1) && powI A (n - 1) n == 1) := by
  have e1 : standB F L N k = true := standB_iff.2 ⟨hL, fun j hj => (hs j hj).1⟩
  have e2 : orderB n A F L = (powI A (n - 1) n == 1) := by
    unfold orderB
    have : ((List.range L).all fun j => !(powI A ((n - 1) / F j) n == 1)) = true := by
      simp only [List.all_eq_true, List.mem_range]
      intro j hj
      simpa using (hs j hj).2
    rw [this, Bool.and_true]
  rw [row_eq h0 h1, e1, e2, ← hp, parts_end, Bool.true_and]

theorem rrow_no1 {n A : Int} {F : Nat → Int} {L : Nat} {N : Nat → Int} {k i : Nat} (hN : ∀ i, i < k → 3 ≤ N i) (hi : i < L) (h : F i < 2) : rowB n A F L N k = false := no_of fun hc => by
  have := stand_two (rowB_iff.1 hc).2.2.1 hN i hi
  omega
theorem rrow_no2 {n A : Int} {F : Nat → Int} {L : Nat} {N : Nat → Int} {k i : Nat} (hi : i + 1 < L) (h : F (i + 1) ≤ F i) : rowB n A F L N k = false := no_of fun hc => by
  have := (rowB_iff.1 hc).2.2.1
  rw [stand_no2 hi (by omega) (by simpa using h)] at this
  cases this
theorem rrow_no3 {n A : Int} {F : Nat → Int} {L : Nat} {N : Nat → Int} {k i : Nat} (hi : i < L) (h : namedB N k (F i) = false) : rowB n A F L N k = false := no_of fun hc => by
  have := (rowB_iff.1 hc).2.2.1
  rw [stand_no3 hi h] at this
  cases this
theorem rrow_no4 {n A : Int} {F : Nat → Int} {L : Nat} {N : Nat → Int} {k i : Nat} {s : Int} (hi : i < L) (hp : partsG F (L - i) i s = partsG F L 0 (n - 1)) (h : s % F i ≠ 0) : rowB n A F L N k = false := no_of fun hc => by
  have := (rowB_iff.1 hc).2.2.2.1
  rw [← hp, parts_no hi h] at this
  cases this
theorem rrow_no5 {n A : Int} {F : Nat → Int} {L : Nat} {N : Nat → Int} {k i : Nat} (hi : i < L) (h : powI A ((n - 1) / F i) n = 1) : rowB n A F L N k = false := no_of fun hc => by
  have := (rowB_iff.1 hc).2.2.2.2
  rw [order_no2 hi h] at this
  cases this
theorem rrow_no6 {n A : Int} {F : Nat → Int} {L : Nat} {N : Nat → Int} {k : Nat} (h : ¬ (1 ≤ L ∧ L ≤ 16)) : rowB n A F L N k = false := no_of fun hc => by
  have := (rowB_iff.1 hc).2.2.1
  rw [stand_no1 h] at this
  cases this

set_option maxRecDepth 100000 in
set_option maxHeartbeats 4000000 in
theorem rrow_any (k : Nat) (a : Option Addr) (n cap : Nat) (N A : Nat → Int) (FA : Nat → Option Addr) (Ls C : Nat → Nat) (Fs : Nat → Nat → Int) (w : World) (hk : k < n) (hn : n ≤ 80) (hN : ∀ i, i < k → 3 ≤ N i) (hin : RowsIn w a n N A FA Ls C Fs) :
    Calls Try.prog 71 #[.slice a n cap, .int .i64 (k : Int)] w fun e w' => e = .returned (.bool (rowB (N k) (A k) (Fs k) (Ls k) N k)) ∧ Below w.heap.size w w' := by
  have HI : Hid (RowsIn w a n N A FA Ls C Fs) := hin
  rcases hin with h0 | ⟨b, off, rfl, hb, hr⟩
  · omega
  have r := hr k hk
  clear hr
  have HN : Hid (∀ i, i < k → 3 ≤ N i) := hN
  clear hN
  obtain ⟨c0, c1, c2, n0, n1, a0, a1, l0, l1, hf⟩ := r
  have HF : Hid (FacsIn w (FA k) (Ls k) (Fs k)) := hf
  clear hf l1
  generalize hx : N k = x at *
  generalize hy : A k = y at *
  generalize hfa : FA k = fa at *
  generalize hL : Ls k = L at *
  generalize hC : C k = fc at *
  generalize hF : Fs k = F at *
  clear hx hy hfa hL hC hF
  by_cases h1 : x < 3
  · have HR : Hid (rowB x y F L N k = false) := row_no (by omega)
    go_enter Try.func71, Try.ntmps71
    go_wp2_with fail
    go_ret
    exact ⟨ret_bool HR.out.symm, below_new (Below.refl _ _) _⟩
  by_cases h2 : 4611686018427387904 < x
  · have HR : Hid (rowB x y F L N k = false) := row_no (by omega)
    go_enter Try.func71, Try.ntmps71
    go_wp2_with fail
    go_ret
    exact ⟨ret_bool HR.out.symm, below_new (Below.refl _ _) _⟩
  by_cases h3 : L < 1
  · have HR : Hid (rowB x y F L N k = false) := rrow_no6 (by omega)
    go_enter Try.func71, Try.ntmps71
    go_wp2_with fail
    go_ret
    exact ⟨ret_bool HR.out.symm, below_new (Below.refl _ _) _⟩
  by_cases h4 : 16 < L
  · have HR : Hid (rowB x y F L N k = false) := rrow_no6 (by omega)
    go_enter Try.func71, Try.ntmps71
    go_wp2_with fail
    go_ret
    exact ⟨ret_bool HR.out.symm, below_new (Below.refl _ _) _⟩
  go_enter Try.func71, Try.ntmps71
  go_wp2_with fail
  go_loopw [6, 7] (fun sv iv wx => ∃ (s : Int) (i : Nat), sv = .int .u64 s ∧ iv = .int .i64 (i : Int) ∧ i ≤ L ∧ 1 ≤ s ∧ s ≤ x - 1 ∧ Below w.heap.size w wx ∧ wx.cell? ⟨w.heap.size, 0, none⟩ = some (.int .u64 x) ∧ wx.cell? ⟨w.heap.size, 1, none⟩ = some (.int .u64 y) ∧ wx.cell? ⟨w.heap.size, 2, none⟩ = some (.slice fa L fc) ∧ Hid (partsG F (L - i) i s = partsG F L 0 (x - 1)) ∧ Hid (Seen x y F N k i)) (fun _ iv _ => L - (intOf iv).toNat)
  case atStart => exact ⟨x - 1, 0, rfl, rfl, Nat.zero_le _, by omega, by omega, below_new (Below.refl _ _) _, by simp, by simp, by simp, rfl, fun j hj => by omega⟩
  case round =>
    obtain ⟨s, i, rfl, rfl, hi, s0, s1, hbel, b0, b1, b2, HP, HS⟩ := hrel
    clear c0 c1 c2
    by_cases hlt : i < L
    · rcases HF.out.below hbel with h0 | ⟨fb, fo, rfl, hfb, hr⟩
      · omega
      obtain ⟨hc, f0, f1⟩ := hr i hlt
      have HK : Hid (RowsIn wr (some ⟨b, off, none⟩) n N A FA Ls C Fs) := HI.out.below hbel
      go_upto_region 9 with fail
      go_cut [8, 80] from 36 to 98 (fun fv tv wx => fv = .int .u64 (F i) ∧ ((tv = .bool true ∧ Hid (rowB x y F L N k = false)) ∨ (tv = .bool false ∧ 2 ≤ F i ∧ Hid (Rises F i ∧ namedB N k (F i) = true) ∧ Hid (s % F i = 0))) ∧ wx = wr)
      case first =>
        by_cases hf2 : F i < 2
        · have HR : Hid (rowB x y F L N k = false) := rrow_no1 HN.out hlt hf2
          clear hr
          go_wp2_with fail
          go_meet
          case rel => exact ⟨rfl, Or.inl ⟨rfl, HR⟩, rfl⟩
        by_cases hz : i ≤ 0
        · clear hr
          have HO : Hid (Rises F i) := Or.inl (by omega)
          by_cases he : F i = 2
          · have HM : Hid (namedB N k (F i) = true) := namedB_iff.2 (Or.inl he)
            have HT : Hid (F i = 2) := he
            have he1 : F i ≤ 2 := by omega
            clear he
            by_cases hq : s % F i = 0
            · have HQ : Hid (s % F i = 0) := hq
              go_wp2_with fail
              go_meet
              case rel => exact ⟨(by first | rfl | rw [HT.out]), Or.inr ⟨(by first | rfl | (have hq' := hq; rw [HT.out] at hq'; simp [hq'])), by omega, ⟨HO.out, HM.out⟩, HQ⟩, rfl⟩
            · have HR : Hid (rowB x y F L N k = false) := rrow_no4 hlt HP.out hq
              go_wp2_with fail
              go_meet
              case rel => exact ⟨(by first | rfl | rw [HT.out]), Or.inl ⟨(by first | rfl | (have hq' := hq; rw [HT.out] at hq'; simp [hq'])), HR⟩, rfl⟩
          · cases ha : aheadB N k (F i)
            · have HR : Hid (rowB x y F L N k = false) := rrow_no3 hlt (by rw [named_ahead, ha, Bool.or_false]; simp [he])
              go_wp2_with (go_at_call 69; refine (ahead_any _ k _ _ _ N A FA Ls C Fs _ (by omega) hn HK.out).mono ?_; rintro e w' ⟨rfl, rfl⟩)
              go_meet
              case rel => exact ⟨rfl, Or.inl ⟨rfl, HR⟩, rfl⟩
            · have HM : Hid (namedB N k (F i) = true) := by rw [named_ahead, ha, Bool.or_true]; rfl
              by_cases hq : s % F i = 0
              · have HQ : Hid (s % F i = 0) := hq
                go_wp2_with (go_at_call 69; refine (ahead_any _ k _ _ _ N A FA Ls C Fs _ (by omega) hn HK.out).mono ?_; rintro e w' ⟨rfl, rfl⟩)
                go_meet
                case rel => exact ⟨rfl, Or.inr ⟨by first | rfl | simp [hq], by omega, ⟨HO.out, HM.out⟩, HQ⟩, rfl⟩
              · have HR : Hid (rowB x y F L N k = false) := rrow_no4 hlt HP.out hq
                go_wp2_with (go_at_call 69; refine (ahead_any _ k _ _ _ N A FA Ls C Fs _ (by omega) hn HK.out).mono ?_; rintro e w' ⟨rfl, rfl⟩)
                go_meet
                case rel => exact ⟨rfl, Or.inl ⟨by first | rfl | simp [hq], HR⟩, rfl⟩
        · obtain ⟨m, rfl⟩ : ∃ m, i = m + 1 := ⟨i - 1, by omega⟩
          obtain ⟨hd, g0, g1⟩ := hr m (by omega)
          clear hr
          by_cases hle : F (m + 1) ≤ F m
          · have HR : Hid (rowB x y F L N k = false) := rrow_no2 hlt hle
            go_wp2_with fail
            go_meet
            case rel => exact ⟨rfl, Or.inl ⟨rfl, HR⟩, rfl⟩
          have HO : Hid (Rises F (m + 1)) := Or.inr (by simpa using hle)
          by_cases he : F (m + 1) = 2
          · have HM : Hid (namedB N k (F (m + 1)) = true) := namedB_iff.2 (Or.inl he)
            have HT : Hid (F (m + 1) = 2) := he
            have he1 : F (m + 1) ≤ 2 := by omega
            clear he
            by_cases hq : s % F (m + 1) = 0
            · have HQ : Hid (s % F (m + 1) = 0) := hq
              go_wp2_with fail
              go_meet
              case rel => exact ⟨(by first | rfl | rw [HT.out]), Or.inr ⟨(by first | rfl | (have hq' := hq; rw [HT.out] at hq'; simp [hq'])), by omega, ⟨HO.out, HM.out⟩, HQ⟩, rfl⟩
            · have HR : Hid (rowB x y F L N k = false) := rrow_no4 hlt HP.out hq
              go_wp2_with fail
              go_meet
              case rel => exact ⟨(by first | rfl | rw [HT.out]), Or.inl ⟨(by first | rfl | (have hq' := hq; rw [HT.out] at hq'; simp [hq'])), HR⟩, rfl⟩
          · cases ha : aheadB N k (F (m + 1))
            · have HR : Hid (rowB x y F L N k = false) := rrow_no3 hlt (by rw [named_ahead, ha, Bool.or_false]; simp [he])
              go_wp2_with (go_at_call 69; refine (ahead_any _ k _ _ _ N A FA Ls C Fs _ (by omega) hn HK.out).mono ?_; rintro e w' ⟨rfl, rfl⟩)
              go_meet
              case rel => exact ⟨rfl, Or.inl ⟨rfl, HR⟩, rfl⟩
            · have HM : Hid (namedB N k (F (m + 1)) = true) := by rw [named_ahead, ha, Bool.or_true]; rfl
              by_cases hq : s % F (m + 1) = 0
              · have HQ : Hid (s % F (m + 1) = 0) := hq
                go_wp2_with (go_at_call 69; refine (ahead_any _ k _ _ _ N A FA Ls C Fs _ (by omega) hn HK.out).mono ?_; rintro e w' ⟨rfl, rfl⟩)
                go_meet
                case rel => exact ⟨rfl, Or.inr ⟨by first | rfl | simp [hq], by omega, ⟨HO.out, HM.out⟩, HQ⟩, rfl⟩
              · have HR : Hid (rowB x y F L N k = false) := rrow_no4 hlt HP.out hq
                go_wp2_with (go_at_call 69; refine (ahead_any _ k _ _ _ N A FA Ls C Fs _ (by omega) hn HK.out).mono ?_; rintro e w' ⟨rfl, rfl⟩)
                go_meet
                case rel => exact ⟨rfl, Or.inl ⟨by first | rfl | simp [hq], HR⟩, rfl⟩
      clear hr
      obtain ⟨rfl, hcut, rfl⟩ := hcut
      rcases hcut with ⟨rfl, HR⟩ | ⟨rfl, f2, HM, HQ⟩
      · go_wp2_with fail
        go_ret
        exact ⟨ret_bool HR.out.symm, hbel⟩
      have HY : Hid (partsG F (L - (i + 1)) (i + 1) (stripI (F i) s) = partsG F L 0 (x - 1)) := by rw [← parts_yes hlt HQ.out]; exact HP.out
      obtain ⟨q0, q1⟩ := quo_le (show 0 ≤ x - 1 by omega) f2
      clear HP
      go_wp2_with fail
      go_loop [6] (fun tv => ∃ t : Int, tv = .int .u64 t ∧ 1 ≤ t ∧ t ≤ s ∧ Hid (stripI (F i) t = stripI (F i) s)) (fun tv => (intOf tv).toNat)
      case atStart => exact ⟨s, rfl, s0, Int.le_refl _, rfl⟩
      case round =>
        obtain ⟨t, rfl, t0, t1, HT⟩ := hrel
        by_cases hz : t % F i = 0
        · obtain ⟨u0, u1⟩ := quo_bd f2 t0 hz
          have HU : Hid (stripI (F i) (t / F i) = stripI (F i) s) := by rw [← stripI_step f2 t0 hz]; exact HT.out
          go_wp2
          go_round
          case rel => exact ⟨_, rfl, u0, by omega, HU⟩
          case measure => simp [intOf]; omega
        · have HU : Hid (partsG F (L - (i + 1)) (i + 1) t = partsG F L 0 (x - 1)) := by
            have e := HT.out
            rw [stripI_stop t0 hz] at e
            rw [e]
            exact HY.out
          by_cases hp : powI y ((x - 1) / F i) x = 1
          · have HR : Hid (rowB x y F L N k = false) := rrow_no5 hlt hp
            go_wp2_with fail
            go_quiet ((go_at_call 60; exact Calls.quiet_of (rpow_any _ _ _ _ a0 a1 (by omega) (by omega))))
            go_wp2_with fail
            go_ret
            exact ⟨ret_bool HR.out.symm, below_drewN hbel _⟩
          · have HW : Hid (powI y ((x - 1) / F i) x ≠ 1) := hp
            go_wp2_with fail
            go_quiet ((go_at_call 60; exact Calls.quiet_of (rpow_any _ _ _ _ a0 a1 (by omega) (by omega))))
            go_wp2_with fail
            go_roundw
            case rel => exact ⟨t, i + 1, rfl, idx_next i, by omega, t0, by omega, below_drewN hbel _, by simpa using b0, by simpa using b1, by simpa using b2, HU, upto_succ HS.out ⟨HM.out, HW.out⟩⟩
            case measure => simp [intOf]; omega
    · have he : i = L := by omega
      subst he
      have HE : Hid (rowB x y F i N k = ((s == 1) && powI y (x - 1) x == 1)) := rrow_end (by omega) (by omega) (by omega) HS.out HP.out
      by_cases h5 : s = 1
      · subst h5
        go_wp2_with (go_at_call 60; refine (rpow_any _ _ _ _ a0 a1 (by omega) (by omega)).mono ?_; rintro e w' ⟨rfl, nd, rfl⟩)
        go_ret
        exact ⟨ret_bool HE.out.symm, below_drewN hbel _⟩
      · have h5b : (s == 1) = false := by simp [h5]
        have HE' : Hid (rowB x y F i N k = false) := by rw [HE.out, h5b]; rfl
        go_wp2_with fail
        go_ret
        exact ⟨ret_bool HE'.out.symm, hbel⟩

end Go.Proofs.Ytmmicbdjafolpae
