/-
  The contracts of prime.hasFullOrder and rowHolds at this seat.
-/
import Derived.Test.YthheogiiggiciadFacs
namespace Go.Proofs.Ythheogiiggiciad
open Go.RowKit

theorem order_no1 {n A : Int} {F : Nat → Int} {L : Nat} (h : powI A (n - 1) n ≠ 1) : orderB n A F L = false := no_of fun hc => h (orderB_iff.1 hc).1
theorem order_no2 {n A : Int} {F : Nat → Int} {L j : Nat} (hj : j < L) (h : powI A ((n - 1) / F j) n = 1) : orderB n A F L = false := no_of fun hc => (orderB_iff.1 hc).2 j hj h

theorem quo_le {m f : Int} (hm : 0 ≤ m) (hf : 2 ≤ f) : 0 ≤ m / f ∧ m / f ≤ m := ⟨Int.ediv_nonneg hm (by omega), Int.ediv_le_self _ hm⟩

set_option maxHeartbeats 1000000 in
theorem order_any (n A : Int) (fa : Option Addr) (L cap : Nat) (F : Nat → Int) (w : World) (n0 : 3 ≤ n) (n1 : n ≤ 4611686018427387904) (a0 : 0 ≤ A) (a1 : A ≤ 18446744073709551615) (hL : L ≤ 16) (hF : ∀ j, j < L → 2 ≤ F j) (hin : FacsIn w fa L F) :
    Calls Try.prog 70 #[.agg #[.int .u64 n, .int .u64 A, .slice fa L cap]] w fun e w' => e = .returned (.bool (orderB n A F L)) ∧ Below w.heap.size w w' := by
  have HI : Hid (FacsIn w fa L F) := hin
  have HF : Hid (∀ j, j < L → 2 ≤ F j) := hF
  clear hin hF
  by_cases hp : powI A (n - 1) n = 1
  · have HP : Hid (powI A (n - 1) n = 1) := hp
    go_enter Try.func70, Try.ntmps70
    go_wp2_with (go_at_call 42; refine (pow_any _ _ _ _ a0 a1 (by omega) (by omega)).mono ?_; rintro e w' ⟨rfl, nd, rfl⟩)
    go_loopw [17] (fun iv wx => ∃ i : Nat, iv = .int .i64 (i : Int) ∧ i ≤ L ∧ Below w.heap.size w wx ∧ wx.cell? ⟨w.heap.size, 0, none⟩ = some (.int .u64 n) ∧ wx.cell? ⟨w.heap.size, 1, none⟩ = some (.int .u64 A) ∧ Hid (∀ j, j < i → powI A ((n - 1) / F j) n ≠ 1)) (fun iv _ => L - (intOf iv).toNat)
    case atStart => exact ⟨0, rfl, Nat.zero_le _, below_drewN (below_new (Below.refl _ _) _) _, by simp, by simp, fun j hj => by omega⟩
    case round =>
      obtain ⟨i, rfl, hi, hbel, b0, b1, HJ⟩ := hrel
      by_cases hlt : i < L
      · rcases HI.out.below hbel with h0 | ⟨b, off, rfl, hb, hr⟩
        · omega
        obtain ⟨hc, f0, f1⟩ := hr i hlt
        clear hr
        have f2 := HF.out i hlt
        obtain ⟨q0, q1⟩ := quo_le (show 0 ≤ n - 1 by omega) f2
        clear hp
        by_cases hp : powI A ((n - 1) / F i) n = 1
        · have HN : Hid (orderB n A F L = false) := order_no2 hlt hp
          go_wp2_with fail
          go_quiet ((go_at_call 42; exact Calls.quiet_of (pow_any _ _ _ _ a0 a1 (by omega) (by omega))))
          go_wp2
          go_ret
          exact ⟨ret_bool HN.out.symm, below_drewN hbel _⟩
        · have HM : Hid (powI A ((n - 1) / F i) n ≠ 1) := hp
          go_wp2_with fail
          go_quiet ((go_at_call 42; exact Calls.quiet_of (pow_any _ _ _ _ a0 a1 (by omega) (by omega))))
          go_wp2
          go_roundw
          case rel => exact ⟨i + 1, idx_next i, by omega, below_drewN hbel _, by simpa using b0, by simpa using b1, upto_succ HJ.out HM.out⟩
          case measure => simp [intOf]; omega
      · have he : i = L := by omega
        subst he
        have HN : Hid (orderB n A F i = true) := orderB_iff.2 ⟨HP.out, HJ.out⟩
        go_wp2_with fail
        go_ret
        exact ⟨ret_bool HN.out.symm, hbel⟩
  · have HN : Hid (orderB n A F L = false) := order_no1 hp
    go_enter Try.func70, Try.ntmps70
    go_wp2_with (go_at_call 42; refine (pow_any _ _ _ _ a0 a1 (by omega) (by omega)).mono ?_; rintro e w' ⟨rfl, nd, rfl⟩)
    go_ret
    exact ⟨ret_bool HN.out.symm, below_drewN (below_new (Below.refl _ _) _) _⟩

/-- A new block of three cells holds them still behind whatever leaves old memory alone. -/
theorem box_below {w w' : World} {x y z : Value} {t : TypeId} (h : Below (w.alloc (.cells #[x, y, z] t)).heap.size (w.alloc (.cells #[x, y, z] t)) w') :
    w'.cell? ⟨w.heap.size, 0, none⟩ = some x ∧ w'.cell? ⟨w.heap.size, 1, none⟩ = some y ∧ w'.cell? ⟨w.heap.size, 2, none⟩ = some z ∧ Below w.heap.size w w' := by
  refine ⟨(h.cell (by simp)).trans (by simp), (h.cell (by simp)).trans (by simp), (h.cell (by simp)).trans (by simp), below_then (below_new (Below.refl _ _) _) h⟩

theorem row_no {n A : Int} {F : Nat → Int} {L : Nat} {N : Nat → Int} {k : Nat} (h : ¬ (3 ≤ n ∧ n ≤ 4611686018427387904)) : rowB n A F L N k = false := no_of fun hc => h ⟨(rowB_iff.1 hc).1, (rowB_iff.1 hc).2.1⟩
theorem row_eq {n A : Int} {F : Nat → Int} {L : Nat} {N : Nat → Int} {k : Nat} (h0 : 3 ≤ n) (h1 : n ≤ 4611686018427387904) : rowB n A F L N k = (standB F L N k && partsG F L 0 (n - 1) && orderB n A F L) := by
  unfold rowB
  simp [h0, h1]

set_option maxHeartbeats 1000000 in
theorem row_any (x y : Int) (fa : Option Addr) (L fcap : Nat) (F : Nat → Int) (a : Option Addr) (n cap : Nat) (N A : Nat → Int) (FA : Nat → Option Addr) (Ls Cs : Nat → Nat) (Fs : Nat → Nat → Int) (w : World)
    (x0 : 0 ≤ x) (x1 : x ≤ 18446744073709551615) (y0 : 0 ≤ y) (y1 : y ≤ 18446744073709551615) (hn : n ≤ 80) (hN : ∀ i, i < n → 3 ≤ N i) (hf : FacsIn w fa L F) (hin : RowsIn w a n N A FA Ls Cs Fs) :
    Calls Try.prog 61 #[.agg #[.int .u64 x, .int .u64 y, .slice fa L fcap], .slice a n cap] w fun e w' => e = .returned (.bool (rowB x y F L N n)) ∧ Below w.heap.size w w' := by
  have HI : Hid (RowsIn w a n N A FA Ls Cs Fs) := hin
  have HF : Hid (FacsIn w fa L F) := hf
  have HN : Hid (∀ i, i < n → 3 ≤ N i) := hN
  clear hin hf hN
  by_cases h1 : x < 3
  · have HR : Hid (rowB x y F L N n = false) := row_no (by omega)
    go_enter Try.func61, Try.ntmps61
    go_wp2_with fail
    go_ret
    exact ⟨ret_bool HR.out.symm, below_new (Below.refl _ _) _⟩
  by_cases h2 : 4611686018427387904 < x
  · have HR : Hid (rowB x y F L N n = false) := row_no (by omega)
    go_enter Try.func61, Try.ntmps61
    go_wp2_with fail
    go_ret
    exact ⟨ret_bool HR.out.symm, below_new (Below.refl _ _) _⟩
  have HE : Hid (rowB x y F L N n = (standB F L N n && partsG F L 0 (x - 1) && orderB x y F L)) := row_eq (by omega) (by omega)
  cases hs : standB F L N n
  · go_enter Try.func61, Try.ntmps61
    go_wp2_with (go_at_call 68; refine (stand_any _ _ _ F _ _ _ N A FA Ls Cs Fs _ hn (HF.out.below (below_new (Below.refl _ _) _)) (HI.out.below (below_new (Below.refl _ _) _))).mono ?_; rintro e w' ⟨rfl, hb⟩)
    go_ret
    exact ⟨ret_bool (by rw [HE.out, hs]; rfl), below_then (below_new (Below.refl _ _) _) hb⟩
  have HT : Hid (∀ j, j < L → 2 ≤ F j) := stand_two hs HN.out
  have hL : L ≤ 16 := (standB_iff.1 hs).1.2
  cases hp : partsG F L 0 (x - 1)
  · go_enter Try.func61, Try.ntmps61
    go_wp2_with (first
      | (go_at_call 68; refine (stand_any _ _ _ F _ _ _ N A FA Ls Cs Fs _ hn (HF.out.below (below_new (Below.refl _ _) _)) (HI.out.below (below_new (Below.refl _ _) _))).mono ?_; rintro e w' ⟨rfl, hb⟩; obtain ⟨g0, g1, g2, hb'⟩ := box_below hb)
      | (go_at_call 69; refine (parts_any _ _ _ _ F _ (by omega) (by omega) hL HT.out (HF.out.below hb')).mono ?_; rintro e w' ⟨rfl, rfl⟩))
    go_ret
    exact ⟨ret_bool (by rw [HE.out, hs, hp]; rfl), hb'⟩
  · go_enter Try.func61, Try.ntmps61
    go_wp2_with (first
      | (go_at_call 68; refine (stand_any _ _ _ F _ _ _ N A FA Ls Cs Fs _ hn (HF.out.below (below_new (Below.refl _ _) _)) (HI.out.below (below_new (Below.refl _ _) _))).mono ?_; rintro e w' ⟨rfl, hb⟩; obtain ⟨g0, g1, g2, hb'⟩ := box_below hb)
      | (go_at_call 69; refine (parts_any _ _ _ _ F _ (by omega) (by omega) hL HT.out (HF.out.below hb')).mono ?_; rintro e w' ⟨rfl, rfl⟩)
      | (go_at_call 70; refine (order_any _ _ _ _ _ F _ (by omega) (by omega) y0 y1 hL HT.out (HF.out.below hb')).mono ?_; rintro e w' ⟨rfl, hb2⟩))
    go_ret
    exact ⟨ret_bool (by rw [HE.out, hs, hp]; rfl), below_then hb' hb2⟩

end Go.Proofs.Ythheogiiggiciad
