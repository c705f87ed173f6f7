/-
  The contracts of linear.Answer and linear.Draws.
  The contract of linear.Extract.
  The contracts of linear.areElements, isCount, lengthsFit and Size.
  The contract of linear.Size.
  The contract of linear.productOfPowers.
  The contract of linear.Image.
  The contract of slices.Equal, of numbers.
  The contract of linear.Holds.
-/
import Derived.Test.YtokhpppealdfmafK18
namespace Go.Proofs.Ytokhpppealdfmaf
open Go.RowKit

set_option maxRecDepth 100000 in
set_option maxHeartbeats 4000000 in
theorem lanswer_any : Lanswer := by
  intro P Q G H a n cap b1 n1 c1 X b2 n2 c2 Y e w h4 hr he m1 m2 mc1 mc2 h1 h2
  have HX : Hid (FacsIn w b1 n1 X) := h1
  have HY : Hid (FacsIn w b2 n2 Y) := h2
  have HZ := lain1 w (gc P Q G H a n cap) 25
  by_cases hn : n1 = n2
  · subst hn
    obtain ⟨M, hM⟩ : ∃ M : Nat → Int, M = fun k => mulI e (X k) Q := ⟨_, rfl⟩
    obtain ⟨F, hF⟩ : ∃ F : Nat → Int, F = fun k => ansI Q e (X k) (Y k) := ⟨_, rfl⟩
    have H1 : Hid (∀ i wx, i < n1 → Calls Try.prog 48 #[.int .u64 e, .int .u64 (X i), .int .u64 Q] wx fun r w' => r = .returned (.int .u64 (M i)) ∧ Old wx w') := fun i wx hi => (mul_any e (X i) Q wx he.1 he.2 (h1.u64 i hi).1 (h1.u64 i hi).2).mono fun r w' ⟨h, k⟩ => ⟨by rw [h, hM], (Old.refl _).draws k⟩
    have H2 : Hid (∀ i wx, i < n1 → Calls Try.prog 47 #[.int .u64 (Y i), .int .u64 (M i), .int .u64 Q] wx fun r w' => r = .returned (.int .u64 (F i)) ∧ Old wx w') := fun i wx hi => (add_any (Y i) (M i) Q wx (h2.u64 i hi).1 (h2.u64 i hi).2 (by rw [hM]; exact (u64_mul _ _ _).1) (by rw [hM]; exact (u64_mul _ _ _).2)).mono fun r w' ⟨h, k⟩ => ⟨by rw [h, hF, hM]; rfl, (Old.refl _).draws k⟩
    rw [← hF]
    clear hF hM he h1 h2 h4 hr
    have hmk := make_run n1 m1
    go_enter Try.func12, Try.ntmps12
    go_upto_region 1 with fail
    generalize hW : w.alloc (.cells (gc P Q G H a n cap) 25) = W at *
    clear hW
    go_upto_region 4 with fail
    have HFu := full_zero W n1 F
    have HWx : Hid (Old W (W.alloc (.cells (madeCells #[Value.int .u64 0] n1) 22))) := (Old.refl W).alloc _
    have hlt0 : W.heap.size < (W.alloc (.cells (madeCells #[Value.int .u64 0] n1) 22)).heap.size := HFu.lt
    generalize W.alloc (.cells (madeCells #[Value.int .u64 0] n1) 22) = W1 at *
    go_upto_region 5 with fail
    go_loopw [22] (fun iv wx => ∃ i : Nat, iv = .int .i64 (i : Int) ∧ i ≤ n1 ∧ Hid (Full wx W.heap.size n1 (upTo i F)) ∧ Hid (Old W wx)) (fun iv _ => n1 - (intOf iv).toNat)
    case atStart => exact ⟨0, rfl, Nat.zero_le _, HFu, HWx⟩
    case round =>
      obtain ⟨i, rfl, hi1, HN, HW⟩ := hrel
      by_cases hlt : i < n1
      · rcases HX.out with h0 | ⟨bx, ox, hqx, _, hrx⟩
        · omega
        rcases HY.out with h0 | ⟨by_, oy, hqy, _, hry⟩
        · omega
        have HT : Hid (∀ w', Old W w' → w'.cell? ⟨w.heap.size, 1, none⟩ = some (.int .u64 Q) ∧ w'.cell? ⟨bx, ox + i, none⟩ = some (.int .u64 (X i)) ∧ w'.cell? ⟨by_, oy + i, none⟩ = some (.int .u64 (Y i))) := fun w' ho => ⟨(HZ.then ho).cell 0 1 (by simp) rfl, (HZ.old.trans ho).cellOf (hrx i hlt).1, (HZ.old.trans ho).cellOf (hry i hlt).1⟩
        clear hrx hry
        subst hqx hqy
        obtain ⟨dq, cx, cy⟩ := HT.out _ HW.out
        have HM : Hid (∀ wx, Calls Try.prog 48 #[.int .u64 e, .int .u64 (X i), .int .u64 Q] wx fun r w' => r = .returned (.int .u64 (M i)) ∧ Old wx w') := fun wx => H1.out i wx hlt
        have HA : Hid (∀ wx, Calls Try.prog 47 #[.int .u64 (Y i), .int .u64 (M i), .int .u64 Q] wx fun r w' => r = .returned (.int .u64 (F i)) ∧ Old wx w') := fun wx => H2.out i wx hlt
        go_upto_region 7 with fail
        go_region_held3 (fun w' => w'.cell? ⟨w.heap.size, 1, none⟩ = some (.int .u64 Q) ∧ w'.cell? ⟨bx, ox + i, none⟩ = some (.int .u64 (X i)) ∧ w'.cell? ⟨by_, oy + i, none⟩ = some (.int .u64 (Y i))) (first | exact HT.out _ (h5.setCell (Nat.le_refl _) _) | exact HT.out _ h5 | exact HT.out _ h4 | exact HT.out _ HW.out.drew) (first
          | (go_at_call 48; refine (HM.out _).mono ?_; rintro e w4 ⟨rfl, o4⟩; have h4 : Old W w4 := HW.out.drew.trans o4)
          | (go_at_call 47; refine (HA.out _).mono ?_; rintro e w5 ⟨rfl, o5⟩; have h5 : Old W w5 := h4.trans o5; have hful := HN.out.old (((Old.refl wr).drew.trans o4).trans o5); have q0 := hful.cell i hlt; have f0 := hful.free i))
        have HG : Hid (Full (w5.setCell ⟨W.heap.size, i, none⟩ (.int .u64 (F i))) W.heap.size n1 (upTo (i + 1) F)) := hful.next
        have HG2 : Hid (Old W (w5.setCell ⟨W.heap.size, i, none⟩ (.int .u64 (F i)))) := h5.setCell (Nat.le_refl _) _
        go_wp2_with fail
        go_roundw
        case rel => exact ⟨i + 1, idx_next i, by omega, HG, HG2⟩
        case measure => simp [intOf]; omega
      · have he : n1 = i := by omega
        subst he
        go_wp2_with fail
        go_ret2
        exact gives_yes (by simp) (HN.out.done.nums HZ.old.size (by omega)) (HZ.old.trans HW.out)
  · have k1 : ¬ (n1 : Int) = (n2 : Int) := by omega
    clear he h1 h2 h4 hr
    go_enter Try.func12, Try.ntmps12
    go_wp2_with fail
    go_ret2
    exact gives_no (by simp [hn]) ((Old.refl _).alloc _)

set_option maxRecDepth 100000 in
set_option maxHeartbeats 4000000 in
theorem ldraws_any : Ldraws := by
  intro P Q G H a n cap b1 n1 c1 X b2 n2 c2 Y e w h4 hr he m1 m2 mc1 mc2 h1 h2
  have HX : Hid (FacsIn w b1 n1 X) := h1
  have HY : Hid (FacsIn w b2 n2 Y) := h2
  have HZ := lain1 w (gc P Q G H a n cap) 25
  by_cases hn : n1 = n2
  · subst hn
    obtain ⟨M, hM⟩ : ∃ M : Nat → Int, M = fun k => mulI e (X k) Q := ⟨_, rfl⟩
    obtain ⟨F, hF⟩ : ∃ F : Nat → Int, F = fun k => drwI Q e (X k) (Y k) := ⟨_, rfl⟩
    have H1 : Hid (∀ i wx, i < n1 → Calls Try.prog 48 #[.int .u64 e, .int .u64 (X i), .int .u64 Q] wx fun r w' => r = .returned (.int .u64 (M i)) ∧ Old wx w') := fun i wx hi => (mul_any e (X i) Q wx he.1 he.2 (h1.u64 i hi).1 (h1.u64 i hi).2).mono fun r w' ⟨h, k⟩ => ⟨by rw [h, hM], (Old.refl _).draws k⟩
    have H2 : Hid (∀ i wx, i < n1 → Calls Try.prog 50 #[.int .u64 (Y i), .int .u64 (M i), .int .u64 Q] wx fun r w' => r = .returned (.int .u64 (F i)) ∧ Old wx w') := fun i wx hi => (sub_any (Y i) (M i) Q wx (h2.u64 i hi).1 (h2.u64 i hi).2 (by rw [hM]; exact (u64_mul _ _ _).1) (by rw [hM]; exact (u64_mul _ _ _).2)).mono fun r w' ⟨h, k⟩ => ⟨by rw [h, hF, hM]; rfl, (Old.refl _).draws k⟩
    rw [← hF]
    clear hF hM he h1 h2 h4 hr
    have hmk := make_run n1 m1
    go_enter Try.func17, Try.ntmps17
    go_upto_region 1 with fail
    generalize hW : w.alloc (.cells (gc P Q G H a n cap) 25) = W at *
    clear hW
    go_upto_region 4 with fail
    have HFu := full_zero W n1 F
    have HWx : Hid (Old W (W.alloc (.cells (madeCells #[Value.int .u64 0] n1) 22))) := (Old.refl W).alloc _
    have hlt0 : W.heap.size < (W.alloc (.cells (madeCells #[Value.int .u64 0] n1) 22)).heap.size := HFu.lt
    generalize W.alloc (.cells (madeCells #[Value.int .u64 0] n1) 22) = W1 at *
    go_upto_region 5 with fail
    go_loopw [22] (fun iv wx => ∃ i : Nat, iv = .int .i64 (i : Int) ∧ i ≤ n1 ∧ Hid (Full wx W.heap.size n1 (upTo i F)) ∧ Hid (Old W wx)) (fun iv _ => n1 - (intOf iv).toNat)
    case atStart => exact ⟨0, rfl, Nat.zero_le _, HFu, HWx⟩
    case round =>
      obtain ⟨i, rfl, hi1, HN, HW⟩ := hrel
      by_cases hlt : i < n1
      · rcases HX.out with h0 | ⟨bx, ox, hqx, _, hrx⟩
        · omega
        rcases HY.out with h0 | ⟨by_, oy, hqy, _, hry⟩
        · omega
        have HT : Hid (∀ w', Old W w' → w'.cell? ⟨w.heap.size, 1, none⟩ = some (.int .u64 Q) ∧ w'.cell? ⟨bx, ox + i, none⟩ = some (.int .u64 (X i)) ∧ w'.cell? ⟨by_, oy + i, none⟩ = some (.int .u64 (Y i))) := fun w' ho => ⟨(HZ.then ho).cell 0 1 (by simp) rfl, (HZ.old.trans ho).cellOf (hrx i hlt).1, (HZ.old.trans ho).cellOf (hry i hlt).1⟩
        clear hrx hry
        subst hqx hqy
        obtain ⟨dq, cx, cy⟩ := HT.out _ HW.out
        have HM : Hid (∀ wx, Calls Try.prog 48 #[.int .u64 e, .int .u64 (X i), .int .u64 Q] wx fun r w' => r = .returned (.int .u64 (M i)) ∧ Old wx w') := fun wx => H1.out i wx hlt
        have HA : Hid (∀ wx, Calls Try.prog 50 #[.int .u64 (Y i), .int .u64 (M i), .int .u64 Q] wx fun r w' => r = .returned (.int .u64 (F i)) ∧ Old wx w') := fun wx => H2.out i wx hlt
        go_upto_region 7 with fail
        go_region_held3 (fun w' => w'.cell? ⟨w.heap.size, 1, none⟩ = some (.int .u64 Q) ∧ w'.cell? ⟨bx, ox + i, none⟩ = some (.int .u64 (X i)) ∧ w'.cell? ⟨by_, oy + i, none⟩ = some (.int .u64 (Y i))) (first | exact HT.out _ (h5.setCell (Nat.le_refl _) _) | exact HT.out _ h5 | exact HT.out _ h4 | exact HT.out _ HW.out.drew) (first
          | (go_at_call 48; refine (HM.out _).mono ?_; rintro e w4 ⟨rfl, o4⟩; have h4 : Old W w4 := HW.out.drew.trans o4)
          | (go_at_call 50; refine (HA.out _).mono ?_; rintro e w5 ⟨rfl, o5⟩; have h5 : Old W w5 := h4.trans o5; have hful := HN.out.old (((Old.refl wr).drew.trans o4).trans o5); have q0 := hful.cell i hlt; have f0 := hful.free i))
        have HG : Hid (Full (w5.setCell ⟨W.heap.size, i, none⟩ (.int .u64 (F i))) W.heap.size n1 (upTo (i + 1) F)) := hful.next
        have HG2 : Hid (Old W (w5.setCell ⟨W.heap.size, i, none⟩ (.int .u64 (F i)))) := h5.setCell (Nat.le_refl _) _
        go_wp2_with fail
        go_roundw
        case rel => exact ⟨i + 1, idx_next i, by omega, HG, HG2⟩
        case measure => simp [intOf]; omega
      · have he : n1 = i := by omega
        subst he
        go_wp2_with fail
        go_ret2
        exact gives_yes (by simp) (HN.out.done.nums HZ.old.size (by omega)) (HZ.old.trans HW.out)
  · have k1 : ¬ (n1 : Int) = (n2 : Int) := by omega
    clear he h1 h2 h4 hr
    go_enter Try.func17, Try.ntmps17
    go_wp2_with fail
    go_ret2
    exact gives_no (by simp [hn]) ((Old.refl _).alloc _)

end Go.Proofs.Ytokhpppealdfmaf

namespace Go.Proofs.Ytokhpppealdfmaf
open Go.RowKit

set_option maxRecDepth 100000 in
set_option maxHeartbeats 4000000 in
theorem lextract_any : Lextract := by
  intro P Q G H a n cap b1 n1 c1 X b2 n2 c2 Y e f w h4 hr he hf m1 m2 mc1 mc2 h1 h2
  clear h4 hr
  have HX : Hid (FacsIn w b1 n1 X) := h1
  have HY : Hid (FacsIn w b2 n2 Y) := h2
  have HZ := lain1 w (gc P Q G H a n cap) 25
  have hsb := subI_bd e f Q
  have HS : Hid (∀ wx, Calls Try.prog 50 #[.int .u64 e, .int .u64 f, .int .u64 Q] wx fun r w' => r = .returned (.int .u64 (subI e f Q)) ∧ Old wx w') := fun wx => (sub_any e f Q wx he.1 he.2 hf.1 hf.2).mono fun r w' ⟨h, k⟩ => ⟨h, (Old.refl _).draws k⟩
  have HI : Hid (∀ wx, Calls Try.prog 49 #[.int .u64 (subI e f Q), .int .u64 Q] wx fun r w' => r = .returned (.tuple #[.int .u64 (invI (subI e f Q) Q), .bool (invB (subI e f Q) Q)]) ∧ Old wx w') := fun wx => (inv_any (subI e f Q) Q wx hsb.1 (by omega)).mono fun r w' ⟨h, k⟩ => ⟨h, (Old.refl _).draws k⟩
  have hib := invI_bd (subI e f Q) Q
  clear he hf hsb
  generalize invI (subI e f Q) Q = I at *
  generalize invB (subI e f Q) Q = ok at *
  generalize subI e f Q = s at *
  have HT0 : Hid (∀ w', Old (w.alloc (.cells (gc P Q G H a n cap) 25)) w' → w'.cell? ⟨w.heap.size, 1, none⟩ = some (.int .u64 Q)) := fun w' ho => (HZ.then ho).cell 0 1 (by simp) rfl
  obtain ⟨M, hM⟩ : ∃ M : Nat → Int, M = fun k => subI (X k) (Y k) Q := ⟨_, rfl⟩
  obtain ⟨F, hF⟩ : ∃ F : Nat → Int, F = fun k => exI Q I (X k) (Y k) := ⟨_, rfl⟩
  have H1 : Hid (n1 = n2 → ∀ i wx, i < n1 → Calls Try.prog 50 #[.int .u64 (X i), .int .u64 (Y i), .int .u64 Q] wx fun r w' => r = .returned (.int .u64 (M i)) ∧ Old wx w') := fun hn i wx hi => (sub_any (X i) (Y i) Q wx (h1.u64 i hi).1 (h1.u64 i hi).2 (h2.u64 i (by omega)).1 (h2.u64 i (by omega)).2).mono fun r w' ⟨h, k⟩ => ⟨by rw [h, hM], (Old.refl _).draws k⟩
  have H2 : Hid (∀ i wx, i < n1 → Calls Try.prog 48 #[.int .u64 (M i), .int .u64 I, .int .u64 Q] wx fun r w' => r = .returned (.int .u64 (F i)) ∧ Old wx w') := fun i wx hi => (mul_any (M i) I Q wx (by rw [hM]; exact (subI_bd _ _ _).1) (by rw [hM]; exact Int.le_trans (subI_bd _ _ _).2 (by decide)) hib.1 (by omega)).mono fun r w' ⟨h, k⟩ => ⟨by rw [h, hF, hM, rule_comm]; rfl, (Old.refl _).draws k⟩
  rw [← hF]
  clear hF hM h1 h2 hib
  go_enter Try.func13, Try.ntmps13
  go_upto_region 1 with fail
  generalize hW : w.alloc (.cells (gc P Q G H a n cap) 25) = W at *
  clear hW
  have dq := HT0.out _ (Old.refl _)
  go_region_held3 (fun w' => w'.cell? ⟨w.heap.size, 1, none⟩ = some (.int .u64 Q)) (first | exact HT0.out _ h2 | exact HT0.out _ h1 | exact HT0.out _ (Old.refl _).drew) (first
    | (go_at_call 50; refine (HS.out _).mono ?_; rintro e w1 ⟨rfl, o1⟩; have h1 : Old W w1 := (Old.refl _).drew.trans o1)
    | (go_at_call 49; refine (HI.out _).mono ?_; rintro e w2 ⟨rfl, o2⟩; have h2 : Old W w2 := h1.trans o2))
  clear HS HI dq
  cases ok with
  | false =>
    go_wp2_with fail
    go_ret2
    exact gives_no (by simp) (HZ.old.trans h2)
  | true =>
    by_cases hn : n1 = n2
    · subst hn
      have HW2 : Hid (Old W w2) := h2
      clear h2 o2 o1 h1
      have hmk := make_run n1 m1
      go_upto_region 5 with fail
      have HFu := full_zero w2 n1 F
      have hz2 : W.heap.size ≤ w2.heap.size := HW2.out.size
      have HWx : Hid (Old W (w2.alloc (.cells (madeCells #[Value.int .u64 0] n1) 22))) := HW2.out.alloc _
      generalize w2.alloc (.cells (madeCells #[Value.int .u64 0] n1) 22) = W1 at *
      go_upto_region 6 with fail
      go_loopw [41] (fun iv wx => ∃ i : Nat, iv = .int .i64 (i : Int) ∧ i ≤ n1 ∧ Hid (Full wx w2.heap.size n1 (upTo i F)) ∧ Hid (Old W wx)) (fun iv _ => n1 - (intOf iv).toNat)
      case atStart => exact ⟨0, rfl, Nat.zero_le _, HFu, HWx⟩
      case round =>
        obtain ⟨i, rfl, hi1, HN, HW⟩ := hrel
        by_cases hlt : i < n1
        · rcases HX.out with h0 | ⟨bx, ox, hqx, _, hrx⟩
          · omega
          rcases HY.out with h0 | ⟨by_, oy, hqy, _, hry⟩
          · omega
          have HT : Hid (∀ w', Old W w' → w'.cell? ⟨w.heap.size, 1, none⟩ = some (.int .u64 Q) ∧ w'.cell? ⟨bx, ox + i, none⟩ = some (.int .u64 (X i)) ∧ w'.cell? ⟨by_, oy + i, none⟩ = some (.int .u64 (Y i))) := fun w' ho => ⟨(HZ.then ho).cell 0 1 (by simp) rfl, (HZ.old.trans ho).cellOf (hrx i hlt).1, (HZ.old.trans ho).cellOf (hry i hlt).1⟩
          clear hrx hry
          subst hqx hqy
          obtain ⟨dq, cx, cy⟩ := HT.out _ HW.out
          have HM : Hid (∀ wx, Calls Try.prog 50 #[.int .u64 (X i), .int .u64 (Y i), .int .u64 Q] wx fun r w' => r = .returned (.int .u64 (M i)) ∧ Old wx w') := fun wx => H1.out (by trivial) i wx hlt
          have HA : Hid (∀ wx, Calls Try.prog 48 #[.int .u64 (M i), .int .u64 I, .int .u64 Q] wx fun r w' => r = .returned (.int .u64 (F i)) ∧ Old wx w') := fun wx => H2.out i wx hlt
          go_upto_region 8 with fail
          go_region_held3 (fun w' => w'.cell? ⟨w.heap.size, 1, none⟩ = some (.int .u64 Q) ∧ w'.cell? ⟨bx, ox + i, none⟩ = some (.int .u64 (X i)) ∧ w'.cell? ⟨by_, oy + i, none⟩ = some (.int .u64 (Y i))) (first | exact HT.out _ (h5.setCell hz2 _) | exact HT.out _ h5 | exact HT.out _ h4 | exact HT.out _ HW.out.drew) (first
            | (go_at_call 50; refine (HM.out _).mono ?_; rintro e w4 ⟨rfl, o4⟩; have h4 : Old W w4 := HW.out.drew.trans o4)
            | (go_at_call 48; refine (HA.out _).mono ?_; rintro e w5 ⟨rfl, o5⟩; have h5 : Old W w5 := h4.trans o5; have hful := HN.out.old (((Old.refl wr).drew.trans o4).trans o5); have q0 := hful.cell i hlt; have f0 := hful.free i))
          have HG : Hid (Full (w5.setCell ⟨w2.heap.size, i, none⟩ (.int .u64 (F i))) w2.heap.size n1 (upTo (i + 1) F)) := hful.next
          have HG2 : Hid (Old W (w5.setCell ⟨w2.heap.size, i, none⟩ (.int .u64 (F i)))) := h5.setCell hz2 _
          go_wp2_with fail
          go_roundw
          case rel => exact ⟨i + 1, idx_next i, by omega, HG, HG2⟩
          case measure => simp [intOf]; omega
        · have he : n1 = i := by omega
          subst he
          go_wp2_with fail
          go_ret2
          exact gives_yes (by simp) (HN.out.done.nums (Nat.le_trans HZ.old.size hz2) (by omega)) (HZ.old.trans HW.out)
    · have k1 : ¬ (n1 : Int) = (n2 : Int) := by omega
      go_wp2_with fail
      go_ret2
      exact gives_no (by simp [hn]) (HZ.old.trans h2)


end Go.Proofs.Ytokhpppealdfmaf

namespace Go.Proofs.Ytokhpppealdfmaf
open Go.RowKit

/-- Elements all. -/
def elB (P Q : Int) (n : Nat) (F : Nat → Int) : Bool := (List.range n).all fun i => inI P Q (F i)
theorem elB_iff {P Q : Int} {n : Nat} {F : Nat → Int} : elB P Q n F = true ↔ ∀ i, i < n → inI P Q (F i) = true := by simp [elB]
/-- Right as a number of targets or bases. -/
def cntB (n : Nat) : Bool := decide (1 ≤ n) && decide (n ≤ 64)
theorem cntB_iff {n : Nat} : cntB n = true ↔ 1 ≤ n ∧ n ≤ 64 := by simp [cntB]
/-- The lengths fit. -/
def lensB (nt nb : Nat) (L : Nat → Nat) : Bool := cntB nt && (decide (nb = nt) && ((List.range nb).all (fun j => decide (L j = L 0)) && cntB (L 0)))
theorem lensB_iff {nt nb : Nat} {L : Nat → Nat} : lensB nt nb L = true ↔ (1 ≤ nt ∧ nt ≤ 64) ∧ nb = nt ∧ (∀ j, j < nb → L j = L 0) ∧ 1 ≤ L 0 ∧ L 0 ≤ 64 := by
  simp [lensB, cntB_iff]

theorem lels_any (P Q G H : Int) (a : Option Addr) (n cap : Nat) (b : Option Addr) (l c : Nat) (F : Nat → Int) (w : World) (h4 : Four P Q G H) (hl : l ≤ 9223372036854775807) (h1 : FacsIn w b l F) :
    Calls Try.prog 68 #[gv P Q G H a n cap, .slice b l c] w fun e w' => e = .returned (.bool (elB P Q l F)) ∧ Old w w' := by
  have HX : Hid (FacsIn w b l F) := h1
  have HZ := lain1 w (gc P Q G H a n cap) 25
  have HI : Hid (∀ i wx, i < l → Calls Try.prog 76 #[gv P Q G H a n cap, .int .u64 (F i)] wx fun e w' => e = .returned (.bool (inI P Q (F i))) ∧ Old wx w') := fun i wx hi => gin0 P Q G H (F i) a n cap wx h4.q0 h4.q1 (h1.u64 i hi).2
  clear h4 h1
  go_enter Try.func68, Try.ntmps68
  go_upto_region 1 with fail
  generalize hW : w.alloc (.cells (gc P Q G H a n cap) 25) = W at *
  clear hW
  go_upto_region 2 with fail
  go_loopw [9] (fun iv wx => ∃ i : Nat, iv = .int .i64 (i : Int) ∧ i ≤ l ∧ Hid (∀ j, j < i → inI P Q (F j) = true) ∧ Hid (Old W wx)) (fun iv _ => l - (intOf iv).toNat)
  case atStart => exact ⟨0, rfl, Nat.zero_le _, fun j hj => by omega, Old.refl _⟩
  case round =>
    obtain ⟨i, rfl, hi1, HJ, HW⟩ := hrel
    by_cases hlt : i < l
    · rcases HX.out with h0 | ⟨bx, ox, hqx, _, hrx⟩
      · omega
      have cx := (HZ.old.trans HW.out).cellOf (hrx i hlt).1
      clear hrx
      subst hqx
      have d0 := (HZ.then HW.out).cell 0 0 (by simp) rfl
      have d1 := (HZ.then HW.out).cell 0 1 (by simp) rfl
      have d2 := (HZ.then HW.out).cell 0 2 (by simp) rfl
      have d3 := (HZ.then HW.out).cell 0 3 (by simp) rfl
      have d4 := (HZ.then HW.out).cell 0 4 (by simp) rfl
      simp only [Nat.add_zero] at d0 d1 d2 d3 d4
      cases hin : inI P Q (F i) with
      | true =>
        have HM : Hid (inI P Q (F i) = true) := hin
        have HC : Hid (∀ wx, Calls Try.prog 76 #[gv P Q G H a n cap, .int .u64 (F i)] wx fun e w' => e = .returned (.bool true) ∧ Old wx w') := fun wx => by have := HI.out i wx hlt; rwa [hin] at this
        clear hin
        go_wp2_with (go_at_call 76; refine (HC.out _).mono ?_; rintro e w1 ⟨rfl, o1⟩)
        go_roundw
        case rel => exact ⟨i + 1, idx_next i, by omega, upto_succ HJ.out HM.out, HW.out.trans o1⟩
        case measure => simp [intOf]; omega
      | false =>
        have HN : Hid (elB P Q l F = false) := no_of fun hc => by have := elB_iff.1 hc i hlt; rw [hin] at this; cases this
        have HC : Hid (∀ wx, Calls Try.prog 76 #[gv P Q G H a n cap, .int .u64 (F i)] wx fun e w' => e = .returned (.bool false) ∧ Old wx w') := fun wx => by have := HI.out i wx hlt; rwa [hin] at this
        clear hin
        go_wp2_with (go_at_call 76; refine (HC.out _).mono ?_; rintro e w1 ⟨rfl, o1⟩)
        go_ret
        exact ⟨ret_bool HN.out.symm, (HZ.old.trans HW.out).trans o1⟩
    · have he : l = i := by omega
      subst he
      have HN : Hid (elB P Q l F = true) := elB_iff.2 HJ.out
      go_wp2_with fail
      go_ret
      exact ⟨ret_bool HN.out.symm, HZ.old.trans HW.out⟩

theorem lcount_any (n : Nat) (w : World) (hn : n ≤ 9223372036854775807) :
    Calls Try.prog 83 #[.int .i64 (n : Int)] w fun e w' => e = .returned (.bool (cntB n)) ∧ w' = w := by
  by_cases h1 : 1 ≤ n
  · have HE : Hid (cntB n = decide (n ≤ 64)) := by unfold Hid cntB; simp [h1]
    by_cases h2 : n ≤ 64
    · have HE2 : Hid (cntB n = true) := HE.out.trans (by simp [h2])
      clear HE
      have k1 : (1 : Int) ≤ (n : Int) := by omega
      have k2 : (n : Int) ≤ 64 := by omega
      go_enter Try.func83, Try.ntmps83
      go_wp2_with fail
      go_ret
      exact ⟨ret_bool HE2.out.symm, by first | trivial | rfl⟩
    · have HE2 : Hid (cntB n = false) := HE.out.trans (by simp [h2])
      clear HE
      have k1 : (1 : Int) ≤ (n : Int) := by omega
      have k2 : ¬ (n : Int) ≤ 64 := by omega
      go_enter Try.func83, Try.ntmps83
      go_wp2_with fail
      go_ret
      exact ⟨ret_bool HE2.out.symm, by first | trivial | rfl⟩
  · have HE : Hid (cntB n = false) := by unfold Hid cntB; simp [h1]
    have k1 : ¬ (1 : Int) ≤ (n : Int) := by omega
    go_enter Try.func83, Try.ntmps83
    go_wp2_with fail
    go_ret
    exact ⟨ret_bool HE.out.symm, by first | trivial | rfl⟩

set_option maxHeartbeats 1000000 in
theorem llens_any (bt : Option Addr) (nt ct : Nat) (T : Nat → Int) (bb : Option Addr) (nb cb : Nat) (BA : Nat → Option Addr) (L C : Nat → Nat) (B : Nat → Nat → Int) (w : World) (hcl : ClaimIn w bt nt ct T bb nb cb BA L C B) :
    Calls Try.prog 67 #[cv bt nt ct bb nb cb] w fun e w' => e = .returned (.bool (lensB nt nb L)) ∧ Old w w' := by
  have HB : Hid (ListsIn w bb nb BA L C B) := hcl.bas
  have HZ := lain1 w (cc bt nt ct bb nb cb) 34
  have mt : nt ≤ 9223372036854775807 := Nat.le_trans hcl.tc hcl.tm
  have mb : nb ≤ 9223372036854775807 := Nat.le_trans hcl.bc hcl.bm
  clear hcl
  have z0 := HZ.cell 0 0 (by simp) rfl
  have z1 := HZ.cell 0 1 (by simp) rfl
  simp only [Nat.add_zero] at z0 z1
  cases ht : cntB nt with
  | false =>
    have HN : Hid (lensB nt nb L = false) := by unfold Hid lensB; simp [ht]
    have HC : Hid (∀ wx, Calls Try.prog 83 #[.int .i64 (nt : Int)] wx fun e w' => e = .returned (.bool false) ∧ w' = wx) := fun wx => by have := lcount_any nt wx mt; rwa [ht] at this
    clear ht
    go_enter Try.func67, Try.ntmps67
    go_wp2_with (go_at_call 83; refine (HC.out _).mono ?_; rintro e w1 ⟨rfl, rfl⟩)
    go_ret
    exact ⟨ret_bool HN.out.symm, HZ.old⟩
  | true =>
    have HC : Hid (∀ wx, Calls Try.prog 83 #[.int .i64 (nt : Int)] wx fun e w' => e = .returned (.bool true) ∧ w' = wx) := fun wx => by have := lcount_any nt wx mt; rwa [ht] at this
    have t1 := (cntB_iff.1 ht).1
    by_cases hn : nb = nt
    · subst hn
      have HE : Hid (lensB nb nb L = ((List.range nb).all (fun j => decide (L j = L 0)) && cntB (L 0))) := by unfold Hid lensB; simp [ht]
      clear ht
      have hB := HB.out
      rcases hB with h0 | ⟨bx, ox, hqx, _, hrx⟩
      · omega
      have HR : Hid (∀ w' j, Old w w' → j < nb → w'.cell? ⟨bx, ox + j, none⟩ = some (.slice (BA j) (L j) (C j)) ∧ L j ≤ 9223372036854775807) := fun w' j ho hj => ⟨ho.cellOf (hrx j hj).1, Nat.le_trans (hrx j hj).2.1 (hrx j hj).2.2.1⟩
      clear hrx
      subst hqx
      have c0 := HR.out _ 0 HZ.old t1
      simp only [Nat.add_zero] at c0
      have m0 := c0.2
      have e0 := c0.1
      clear c0
      have HC2 : Hid (∀ wx, Calls Try.prog 83 #[.int .i64 (L 0 : Int)] wx fun e w' => e = .returned (.bool (cntB (L 0))) ∧ w' = wx) := fun wx => lcount_any (L 0) wx m0
      generalize hl0 : L 0 = l0 at *
      have HL0 : Hid (L 0 = l0) := hl0
      clear hl0
      generalize hcb : cntB l0 = cl at *
      clear hcb
      have hpos : (0 : Int) < (nb : Int) := by omega
      go_enter Try.func67, Try.ntmps67
      go_upto_region 1 with fail
      generalize hW : w.alloc (.cells (cc bt nb ct (some ⟨bx, ox, none⟩) nb cb) 34) = W at *
      clear hW
      go_upto_region 5 with (go_at_call 83; refine (HC.out _).mono ?_; rintro e w1 ⟨rfl, rfl⟩)
      go_loopw [28] (fun iv wx => ∃ i : Nat, iv = .int .i64 (i : Int) ∧ i ≤ nb ∧ Hid (∀ j, j < i → L j = l0) ∧ Hid (Old w wx)) (fun iv _ => nb - (intOf iv).toNat)
      case atStart => exact ⟨0, rfl, Nat.zero_le _, fun j hj => by omega, HZ.old⟩
      case round =>
        obtain ⟨i, rfl, hi1, HJ, HW⟩ := hrel
        by_cases hlt : i < nb
        · obtain ⟨cx, mx⟩ := HR.out _ i HW.out hlt
          by_cases he : L i = l0
          · have HM : Hid (L i = l0) := he
            rw [he] at cx
            clear he mx
            go_wp2_with fail
            go_roundw
            case rel => exact ⟨i + 1, idx_next i, by omega, upto_succ HJ.out HM.out, HW.out⟩
            case measure => simp [intOf]; omega
          · have k1 : ¬ (L i : Int) = (l0 : Int) := by omega
            have HN : Hid (((List.range nb).all (fun j => decide (L j = l0)) && cl) = false) := no_of fun hc => by
              rw [Bool.and_eq_true] at hc
              have := List.all_eq_true.1 hc.1 i (List.mem_range.2 hlt)
              simp at this
              exact he this
            go_wp2_with fail
            go_ret
            exact ⟨by rw [HE.out]; exact ret_bool HN.out.symm, HW.out⟩
        · have he : nb = i := by omega
          have HN : Hid (((List.range nb).all (fun j => decide (L j = l0)) && cl) = cl) := by
            have : (List.range nb).all (fun j => decide (L j = l0)) = true := List.all_eq_true.2 fun j hj => by simp [HJ.out j (he ▸ List.mem_range.1 hj)]
            unfold Hid
            rw [this, Bool.true_and]
          subst he
          go_wp2_with (go_at_call 83; refine (HC2.out _).mono ?_; rintro e w1 ⟨rfl, rfl⟩)
          go_ret
          exact ⟨by rw [HE.out, HN.out]; rfl, HW.out⟩
    · have HN : Hid (lensB nt nb L = false) := by unfold Hid lensB; simp [hn]
      have k1 : ¬ (nb : Int) = (nt : Int) := by omega
      clear ht
      go_enter Try.func67, Try.ntmps67
      go_wp2_with (go_at_call 83; refine (HC.out _).mono ?_; rintro e w1 ⟨rfl, rfl⟩)
      go_ret
      exact ⟨ret_bool HN.out.symm, HZ.old⟩

end Go.Proofs.Ytokhpppealdfmaf

namespace Go.Proofs.Ytokhpppealdfmaf
open Go.RowKit

theorem size_no_lens {P Q : Int} {nt : Nat} {T : Nat → Int} {nb : Nat} {L : Nat → Nat} {B : Nat → Nat → Int} (h : lensB nt nb L = false) : sizeN P Q nt T nb L B = 0 :=
  sizeN_no fun hc => by
    obtain ⟨h1, h2, h3, h4, h5, h6⟩ := hc
    have := lensB_iff.2 ⟨⟨h1, h2⟩, h3, fun j hj => (rowsB_iff.1 h6 j (h3 ▸ hj)).2.1, h4, h5⟩
    rw [h] at this
    cases this
theorem size_no_tar {P Q : Int} {nt : Nat} {T : Nat → Int} {nb : Nat} {L : Nat → Nat} {B : Nat → Nat → Int} (h : elB P Q nt T = false) : sizeN P Q nt T nb L B = 0 :=
  sizeN_no fun hc => by
    have := elB_iff.2 fun j hj => (rowsB_iff.1 hc.2.2.2.2.2 j hj).1
    rw [h] at this
    cases this
theorem size_no_row {P Q : Int} {nt : Nat} {T : Nat → Int} {nb : Nat} {L : Nat → Nat} {B : Nat → Nat → Int} {i : Nat} (hi : i < nb) (h : elB P Q (L i) (B i) = false) : sizeN P Q nt T nb L B = 0 :=
  sizeN_no fun hc => by
    have hr := rowsB_iff.1 hc.2.2.2.2.2 i (hc.2.2.1 ▸ hi)
    have : elB P Q (L i) (B i) = true := elB_iff.2 fun j hj => hr.2.2 j (hr.2.1 ▸ hj)
    rw [h] at this
    cases this
theorem size_yes {P Q : Int} {nt : Nat} {T : Nat → Int} {nb : Nat} {L : Nat → Nat} {B : Nat → Nat → Int} (hl : lensB nt nb L = true) (ht : elB P Q nt T = true) (hr : ∀ j, j < nb → elB P Q (L j) (B j) = true) : sizeN P Q nt T nb L B = L 0 := by
  obtain ⟨⟨h1, h2⟩, h3, h4, h5, h6⟩ := lensB_iff.1 hl
  unfold sizeN
  rw [if_pos ⟨h1, h2, h3, h5, h6, rowsB_iff.2 fun j hj => ⟨elB_iff.1 ht j hj, h4 j (h3 ▸ hj), fun i hi => elB_iff.1 (hr j (h3 ▸ hj)) i (by rw [h4 j (h3 ▸ hj)]; exact hi)⟩⟩]

set_option maxRecDepth 100000 in
set_option maxHeartbeats 4000000 in
theorem lsize_gen (P Q G H : Int) (a : Option Addr) (n cap : Nat) (bt : Option Addr) (nt ct : Nat) (T : Nat → Int) (bb : Option Addr) (nb cb : Nat) (BA : Nat → Option Addr) (L C : Nat → Nat) (B : Nat → Nat → Int) (w : World) (h4 : Four P Q G H) (hcl : ClaimIn w bt nt ct T bb nb cb BA L C B) :
    Calls Try.prog 44 #[gv P Q G H a n cap, cv bt nt ct bb nb cb] w fun e w' => e = .returned (.int .i64 (sizeN P Q nt T nb L B : Nat)) ∧ Old w w' := by
  have HZ := lain2 w (gc P Q G H a n cap) (cc bt nt ct bb nb cb) 25 34
  have HT : Hid (∀ w', Old ((w.alloc (.cells (gc P Q G H a n cap) 25)).alloc (.cells (cc bt nt ct bb nb cb) 34)) w' → w'.cell? ⟨w.heap.size, 0, none⟩ = some (.int .u64 P) ∧ w'.cell? ⟨w.heap.size, 1, none⟩ = some (.int .u64 Q) ∧ w'.cell? ⟨w.heap.size, 2, none⟩ = some (.int .u64 G) ∧ w'.cell? ⟨w.heap.size, 3, none⟩ = some (.int .u64 H) ∧ w'.cell? ⟨w.heap.size, 4, none⟩ = some (.slice a n cap) ∧ w'.cell? ⟨w.heap.size + 1, 0, none⟩ = some (.slice bt nt ct) ∧ w'.cell? ⟨w.heap.size + 1, 1, none⟩ = some (.slice bb nb cb)) := fun w' ho => by
    have h := HZ.then ho
    exact ⟨h.cell 0 0 (by simp) rfl, h.cell 0 1 (by simp) rfl, h.cell 0 2 (by simp) rfl, h.cell 0 3 (by simp) rfl, h.cell 0 4 (by simp) rfl, h.cell 1 0 (by simp) rfl, h.cell 1 1 (by simp) rfl⟩
  have HLn : Hid (∀ wx, Old w wx → Calls Try.prog 67 #[cv bt nt ct bb nb cb] wx fun e w' => e = .returned (.bool (lensB nt nb L)) ∧ Old wx w') := fun wx ho => llens_any bt nt ct T bb nb cb BA L C B wx (hcl.old ho)
  have HTa : Hid (∀ wx, Old w wx → Calls Try.prog 68 #[gv P Q G H a n cap, .slice bt nt ct] wx fun e w' => e = .returned (.bool (elB P Q nt T)) ∧ Old wx w') := fun wx ho => lels_any P Q G H a n cap bt nt ct T wx h4 (Nat.le_trans hcl.tc hcl.tm) (hcl.tar.old ho)
  have HB : Hid (ListsIn w bb nb BA L C B) := hcl.bas
  have HRo : Hid (∀ i wx, Old w wx → i < nb → Calls Try.prog 68 #[gv P Q G H a n cap, .slice (BA i) (L i) (C i)] wx fun e w' => e = .returned (.bool (elB P Q (L i) (B i))) ∧ Old wx w') := fun i wx ho hi => by
    rcases HB.out with h0 | ⟨bx, ox, hqx, _, hrx⟩
    · omega
    exact lels_any P Q G H a n cap (BA i) (L i) (C i) (B i) wx h4 (Nat.le_trans (hrx i hi).2.1 (hrx i hi).2.2.1) ((hrx i hi).2.2.2.old ho)
  have mb : nb ≤ 9223372036854775807 := Nat.le_trans hcl.bc hcl.bm
  clear h4 hcl
  cases hl : lensB nt nb L with
  | false =>
    have HN : Hid (sizeN P Q nt T nb L B = 0) := size_no_lens hl
    rw [hl] at HLn
    clear hl
    go_enter Try.func44, Try.ntmps44
    go_upto_region 1 with fail
    have HW0 : Hid (Old w ((w.alloc (.cells (gc P Q G H a n cap) 25)).alloc (.cells (cc bt nt ct bb nb cb) 34))) := HZ.old
    generalize hW : (w.alloc (.cells (gc P Q G H a n cap) 25)).alloc (.cells (cc bt nt ct bb nb cb) 34) = W at *
    clear hW
    obtain ⟨d0, d1, d2, d3, d4, z0, z1⟩ := HT.out _ (Old.refl _)
    go_wp2_with (go_at_call 67; refine (HLn.out _ HW0.out).mono ?_; rintro e w1 ⟨rfl, o1⟩)
    go_ret
    exact ⟨by rw [HN.out]; rfl, HW0.out.trans o1⟩
  | true =>
    cases ht : elB P Q nt T with
    | false =>
      have HN : Hid (sizeN P Q nt T nb L B = 0) := size_no_tar ht
      rw [hl] at HLn
      rw [ht] at HTa
      clear hl ht
      go_enter Try.func44, Try.ntmps44
      go_upto_region 1 with fail
      have HW0 : Hid (Old w ((w.alloc (.cells (gc P Q G H a n cap) 25)).alloc (.cells (cc bt nt ct bb nb cb) 34))) := HZ.old
      generalize hW : (w.alloc (.cells (gc P Q G H a n cap) 25)).alloc (.cells (cc bt nt ct bb nb cb) 34) = W at *
      clear hW
      obtain ⟨d0, d1, d2, d3, d4, z0, z1⟩ := HT.out _ (Old.refl _)
      go_wp2_with (first
        | (go_at_call 67; refine (HLn.out _ HW0.out).mono ?_; rintro e w1 ⟨rfl, o1⟩; obtain ⟨d0, d1, d2, d3, d4, z0, z1⟩ := HT.out _ o1)
        | (go_at_call 68; refine (HTa.out _ (HW0.out.trans o1)).mono ?_; rintro e w2 ⟨rfl, o2⟩))
      go_ret
      exact ⟨by rw [HN.out]; rfl, (HW0.out.trans o1).trans o2⟩
    | true =>
      have HY : Hid ((∀ j, j < nb → elB P Q (L j) (B j) = true) → sizeN P Q nt T nb L B = L 0) := fun hr => size_yes hl ht hr
      have hpos : 0 < nb := by have := lensB_iff.1 hl; omega
      have hposI : (0 : Int) < (nb : Int) := by omega
      rw [hl] at HLn
      rw [ht] at HTa
      clear hl ht
      have hB := HB.out
      rcases hB with h0 | ⟨bx, ox, hqx, _, hrx⟩
      · omega
      have HR : Hid (∀ w' j, Old w w' → j < nb → w'.cell? ⟨bx, ox + j, none⟩ = some (.slice (BA j) (L j) (C j))) := fun w' j ho hj => ho.cellOf (hrx j hj).1
      clear hrx
      subst hqx
      go_enter Try.func44, Try.ntmps44
      go_upto_region 1 with fail
      have HW0 : Hid (Old w ((w.alloc (.cells (gc P Q G H a n cap) 25)).alloc (.cells (cc bt nt ct (some ⟨bx, ox, none⟩) nb cb) 34))) := HZ.old
      generalize hW : (w.alloc (.cells (gc P Q G H a n cap) 25)).alloc (.cells (cc bt nt ct (some ⟨bx, ox, none⟩) nb cb) 34) = W at *
      clear hW
      obtain ⟨d0, d1, d2, d3, d4, z0, z1⟩ := HT.out _ (Old.refl _)
      go_upto_region 4 with (first
        | (go_at_call 67; refine (HLn.out _ HW0.out).mono ?_; rintro e w1 ⟨rfl, o1⟩; obtain ⟨d0, d1, d2, d3, d4, z0, z1⟩ := HT.out _ o1)
        | (go_at_call 68; refine (HTa.out _ (HW0.out.trans o1)).mono ?_; rintro e w2 ⟨rfl, o2⟩; obtain ⟨d0, d1, d2, d3, d4, z0, z1⟩ := HT.out _ (o1.trans o2)))
      have HWx : Hid (Old W w2) := o1.trans o2
      clear o1 o2
      go_loopw [20] (fun iv wx => ∃ i : Nat, iv = .int .i64 (i : Int) ∧ i ≤ nb ∧ Hid (∀ j, j < i → elB P Q (L j) (B j) = true) ∧ Hid (Old W wx)) (fun iv _ => nb - (intOf iv).toNat)
      case atStart => exact ⟨0, rfl, Nat.zero_le _, fun j hj => by omega, HWx⟩
      case round =>
        clear d0 d1 d2 d3 d4 z0 z1
        obtain ⟨i, rfl, hi1, HJ, HW⟩ := hrel
        obtain ⟨d0, d1, d2, d3, d4, z0, z1⟩ := HT.out _ HW.out
        by_cases hlt : i < nb
        · have cx := HR.out _ i (HW0.out.trans HW.out) hlt
          have HC : Hid (∀ wx, Old W wx → Calls Try.prog 68 #[gv P Q G H a n cap, .slice (BA i) (L i) (C i)] wx fun e w' => e = .returned (.bool (elB P Q (L i) (B i))) ∧ Old wx w') := fun wx ho => HRo.out i wx (HW0.out.trans ho) hlt
          cases hin : elB P Q (L i) (B i) with
          | true =>
            have HM : Hid (elB P Q (L i) (B i) = true) := hin
            rw [hin] at HC
            clear hin
            go_wp2_with (go_at_call 68; refine (HC.out _ HW.out).mono ?_; rintro e w3 ⟨rfl, o3⟩)
            go_roundw
            case rel => exact ⟨i + 1, idx_next i, by omega, upto_succ HJ.out HM.out, HW.out.trans o3⟩
            case measure => simp [intOf]; omega
          | false =>
            have HN : Hid (sizeN P Q nt T nb L B = 0) := size_no_row hlt hin
            rw [hin] at HC
            clear hin
            go_wp2_with (go_at_call 68; refine (HC.out _ HW.out).mono ?_; rintro e w3 ⟨rfl, o3⟩)
            go_ret
            exact ⟨by rw [HN.out]; rfl, (HW0.out.trans HW.out).trans o3⟩
        · have he : nb = i := by omega
          subst he
          have HN : Hid (sizeN P Q nt T nb L B = L 0) := HY.out HJ.out
          have c0 := HR.out _ 0 (HW0.out.trans HW.out) hpos
          rw [Nat.add_zero] at c0
          go_wp2_with fail
          go_ret
          exact ⟨by rw [HN.out]; rfl, HW0.out.trans HW.out⟩

theorem lsize_any : Lsize := fun P Q G H a n cap bt nt ct T bb nb cb BA L C B w h4 _ _ hcl => lsize_gen P Q G H a n cap bt nt ct T bb nb cb BA L C B w h4 hcl

end Go.Proofs.Ytokhpppealdfmaf

namespace Go.Proofs.Ytokhpppealdfmaf
open Go.RowKit

set_option maxRecDepth 100000 in
set_option maxHeartbeats 4000000 in
theorem lpow_any (P Q G H : Int) (a : Option Addr) (n cap : Nat) (b1 : Option Addr) (n1 c1 : Nat) (B1 : Nat → Int) (b2 : Option Addr) (n2 c2 : Nat) (X : Nat → Int) (w : World) (h4 : Four P Q G H) (hr : Righ P Q G) (m1 : n1 ≤ 80) (hn : n1 = n2) (h1 : FacsIn w b1 n1 B1) (h2 : FacsIn w b2 n2 X) :
    Calls Try.prog 52 #[gv P Q G H a n cap, .slice b1 n1 c1, .slice b2 n2 c2] w fun e w' => e = .returned (.int .u64 (imI P Q B1 X n1)) ∧ Old w w' := by
  subst hn
  have HX : Hid (FacsIn w b1 n1 B1) := h1
  have HY : Hid (FacsIn w b2 n1 X) := h2
  have HZ := lain1 w (gc P Q G H a n cap) 25
  obtain ⟨F, hF⟩ : ∃ F : Nat → Int, F = fun k => expI P Q (B1 k) (X k) := ⟨_, rfl⟩
  have H1 : Hid (∀ i wx, i < n1 → Calls Try.prog 54 #[gv P Q G H a n cap, .int .u64 (B1 i), .int .u64 (X i)] wx fun r w' => r = .returned (.int .u64 (F i)) ∧ Old wx w') := fun i wx hi => (gexp_any P Q G H (B1 i) (X i) a n cap wx h4 hr (h1.u64 i hi).1 (h1.u64 i hi).2 (h2.u64 i hi).1 (h2.u64 i hi).2).mono fun r w' ⟨h, k⟩ => ⟨by rw [h, hF], k⟩
  have H2 : Hid (∀ b wx, FacsIn wx b n1 F → Calls Try.prog 75 #[gv P Q G H a n cap, .slice b n1 n1] wx fun r w' => r = .returned (.int .u64 (imI P Q B1 X n1)) ∧ Old wx w') := fun b wx hf => (gprod_any P Q G H a n cap b n1 n1 F wx h4 hr (Nat.le_refl _) (by omega) hf).mono fun r w' ⟨h, k⟩ => ⟨by rw [h, hF]; rfl, k⟩
  have HU : Hid (∀ k, U64 (F k)) := fun k => by rw [hF]; exact u64_exp _ _ _ _
  generalize imI P Q B1 X n1 = im at *
  clear hF h1 h2 h4 hr
  have hmk := make_run n1 m1
  go_enter Try.func52, Try.ntmps52
  go_upto_region 1 with fail
  generalize hW : w.alloc (.cells (gc P Q G H a n cap) 25) = W at *
  clear hW
  go_upto_region 2 with fail
  have HFu := full_zero W n1 F
  have HWx : Hid (Old W (W.alloc (.cells (madeCells #[Value.int .u64 0] n1) 22))) := (Old.refl W).alloc _
  have hlt0 : W.heap.size < (W.alloc (.cells (madeCells #[Value.int .u64 0] n1) 22)).heap.size := HFu.lt
  generalize W.alloc (.cells (madeCells #[Value.int .u64 0] n1) 22) = W1 at *
  go_upto_region 3 with fail
  go_loopw [15] (fun iv wx => ∃ i : Nat, iv = .int .i64 (i : Int) ∧ i ≤ n1 ∧ Hid (Full wx W.heap.size n1 (upTo i F)) ∧ Hid (Old W wx)) (fun iv _ => n1 - (intOf iv).toNat)
  case atStart => exact ⟨0, rfl, Nat.zero_le _, HFu, HWx⟩
  case round =>
    obtain ⟨i, rfl, hi1, HN, HW⟩ := hrel
    by_cases hlt : i < n1
    · rcases HX.out with h0 | ⟨bx, ox, hqx, _, hrx⟩
      · omega
      rcases HY.out with h0 | ⟨by_, oy, hqy, _, hry⟩
      · omega
      have HT : Hid (∀ w', Old W w' → w'.cell? ⟨w.heap.size, 0, none⟩ = some (.int .u64 P) ∧ w'.cell? ⟨w.heap.size, 1, none⟩ = some (.int .u64 Q) ∧ w'.cell? ⟨w.heap.size, 2, none⟩ = some (.int .u64 G) ∧ w'.cell? ⟨w.heap.size, 3, none⟩ = some (.int .u64 H) ∧ w'.cell? ⟨w.heap.size, 4, none⟩ = some (.slice a n cap) ∧ w'.cell? ⟨by_, oy + i, none⟩ = some (.int .u64 (X i))) := fun w' ho => ⟨(HZ.then ho).cell 0 0 (by simp) rfl, (HZ.then ho).cell 0 1 (by simp) rfl, (HZ.then ho).cell 0 2 (by simp) rfl, (HZ.then ho).cell 0 3 (by simp) rfl, (HZ.then ho).cell 0 4 (by simp) rfl, (HZ.old.trans ho).cellOf (hry i hlt).1⟩
      have cx := (HZ.old.trans HW.out).cellOf (hrx i hlt).1
      clear hrx hry
      subst hqx hqy
      obtain ⟨d0, d1, d2, d3, d4, cy⟩ := HT.out _ HW.out
      have HM : Hid (∀ wx, Calls Try.prog 54 #[gv P Q G H a n cap, .int .u64 (B1 i), .int .u64 (X i)] wx fun r w' => r = .returned (.int .u64 (F i)) ∧ Old wx w') := fun wx => H1.out i wx hlt
      go_upto_region 5 with fail
      go_region_held3 (fun w' => w'.cell? ⟨w.heap.size, 0, none⟩ = some (.int .u64 P) ∧ w'.cell? ⟨w.heap.size, 1, none⟩ = some (.int .u64 Q) ∧ w'.cell? ⟨w.heap.size, 2, none⟩ = some (.int .u64 G) ∧ w'.cell? ⟨w.heap.size, 3, none⟩ = some (.int .u64 H) ∧ w'.cell? ⟨w.heap.size, 4, none⟩ = some (.slice a n cap) ∧ w'.cell? ⟨by_, oy + i, none⟩ = some (.int .u64 (X i))) (first | exact HT.out _ (h4.setCell (Nat.le_refl _) _) | exact HT.out _ h4 | exact HT.out _ HW.out.drew) (first
        | (go_at_call 54; refine (HM.out _).mono ?_; rintro e w4 ⟨rfl, o4⟩; have h4 : Old W w4 := HW.out.drew.trans o4; have hful := HN.out.old ((Old.refl wr).drew.trans o4); have q0 := hful.cell i hlt; have f0 := hful.free i))
      have HG : Hid (Full (w4.setCell ⟨W.heap.size, i, none⟩ (.int .u64 (F i))) W.heap.size n1 (upTo (i + 1) F)) := hful.next
      have HG2 : Hid (Old W (w4.setCell ⟨W.heap.size, i, none⟩ (.int .u64 (F i)))) := h4.setCell (Nat.le_refl _) _
      go_wp2_with fail
      go_roundw
      case rel => exact ⟨i + 1, idx_next i, by omega, HG, HG2⟩
      case measure => simp [intOf]; omega
    · have he : n1 = i := by omega
      subst he
      have d0 := (HZ.then HW.out).cell 0 0 (by simp) rfl
      have d1 := (HZ.then HW.out).cell 0 1 (by simp) rfl
      have d2 := (HZ.then HW.out).cell 0 2 (by simp) rfl
      have d3 := (HZ.then HW.out).cell 0 3 (by simp) rfl
      have d4 := (HZ.then HW.out).cell 0 4 (by simp) rfl
      simp only [Nat.add_zero] at d0 d1 d2 d3 d4
      have HP : Hid (Calls Try.prog 75 #[gv P Q G H a n cap, .slice (some ⟨W.heap.size, 0, none⟩) n1 n1] wr fun r w' => r = .returned (.int .u64 im) ∧ Old wr w') := H2.out _ _ (HN.out.done.facs fun k _ => HU.out k)
      go_wp2_with (go_at_call 75; refine HP.out.mono ?_; rintro e w5 ⟨rfl, o5⟩)
      go_ret
      exact ⟨rfl, (HZ.old.trans HW.out).trans o5⟩

end Go.Proofs.Ytokhpppealdfmaf

namespace Go.Proofs.Ytokhpppealdfmaf
open Go.RowKit

/-- A new list that is held whole, and whether there is one. -/
def GivesF (w : World) (ok : Bool) (k : Nat) (F : Nat → Int) (r : Ending) (w' : World) : Prop :=
  Old w w' ∧ ((ok = false ∧ r = .returned (.tuple #[.slice none 0 0, .bool false])) ∨ (ok = true ∧ ∃ b, w.heap.size ≤ b ∧ r = .returned (.tuple #[.slice (some ⟨b, 0, none⟩) k k, .bool true]) ∧ Full w' b k F))
theorem GivesF.gives {w w' : World} {ok : Bool} {k : Nat} {F : Nat → Int} {r : Ending} (h : GivesF w ok k F r w') (hk : k ≤ 9223372036854775807) : Gives w ok k F r w' := by
  obtain ⟨ho, ⟨h1, rfl⟩ | ⟨h1, b, hb, rfl, hF⟩⟩ := h
  · exact gives_no h1 ho
  · exact gives_yes h1 (hF.nums hb hk) ho

set_option linter.unusedSimpArgs false in
set_option maxRecDepth 100000 in
set_option maxHeartbeats 8000000 in
theorem limage_gen (P Q G H : Int) (a : Option Addr) (n cap : Nat) (bt : Option Addr) (nt ct : Nat) (T : Nat → Int) (bb : Option Addr) (nb cb : Nat) (BA : Nat → Option Addr) (L C : Nat → Nat) (B : Nat → Nat → Int) (bz : Option Addr) (nz cz : Nat) (X : Nat → Int) (w : World) (h4 : Four P Q G H) (hr : Righ P Q G) (hC : ClaimIn w bt nt ct T bb nb cb BA L C B) (hX : FacsIn w bz nz X) :
    Calls Try.prog 15 #[gv P Q G H a n cap, cv bt nt ct bb nb cb, .slice bz nz cz] w (GivesF w (fitsB (sizeN P Q nt T nb L B) nz) nt (fun j => imI P Q (B j) X (sizeN P Q nt T nb L B))) := by
  have HZ := lain2 w (gc P Q G H a n cap) (cc bt nt ct bb nb cb) 25 34
  have HT : Hid (∀ w', Old ((w.alloc (.cells (gc P Q G H a n cap) 25)).alloc (.cells (cc bt nt ct bb nb cb) 34)) w' → w'.cell? ⟨w.heap.size, 0, none⟩ = some (.int .u64 P) ∧ w'.cell? ⟨w.heap.size, 1, none⟩ = some (.int .u64 Q) ∧ w'.cell? ⟨w.heap.size, 2, none⟩ = some (.int .u64 G) ∧ w'.cell? ⟨w.heap.size, 3, none⟩ = some (.int .u64 H) ∧ w'.cell? ⟨w.heap.size, 4, none⟩ = some (.slice a n cap) ∧ w'.cell? ⟨w.heap.size + 1, 0, none⟩ = some (.slice bt nt ct) ∧ w'.cell? ⟨w.heap.size + 1, 1, none⟩ = some (.slice bb nb cb)) := fun w' ho => by
    have h := HZ.then ho
    exact ⟨h.cell 0 0 (by simp) rfl, h.cell 0 1 (by simp) rfl, h.cell 0 2 (by simp) rfl, h.cell 0 3 (by simp) rfl, h.cell 0 4 (by simp) rfl, h.cell 1 0 (by simp) rfl, h.cell 1 1 (by simp) rfl⟩
  have HS : Hid (∀ wx, Old w wx → Calls Try.prog 44 #[gv P Q G H a n cap, cv bt nt ct bb nb cb] wx fun e w' => e = .returned (.int .i64 (sizeN P Q nt T nb L B : Nat)) ∧ Old wx w') := fun wx ho => lsize_gen P Q G H a n cap bt nt ct T bb nb cb BA L C B wx h4 (hC.old ho)
  have hcl := sizeN_claim (P := P) (Q := Q) (nt := nt) (T := T) (nb := nb) (L := L) (B := B)
  have HB : Hid (ListsIn w bb nb BA L C B) := hC.bas
  generalize sizeN P Q nt T nb L B = sz at *
  obtain ⟨F, hF⟩ : ∃ F : Nat → Int, F = fun j => imI P Q (B j) X sz := ⟨_, rfl⟩
  rw [← hF]
  have HPw : Hid (∀ i wx, Old w wx → i < nb → L i = nz → nz = sz → nz ≤ 80 → Calls Try.prog 52 #[gv P Q G H a n cap, .slice (BA i) (L i) (C i), .slice bz nz cz] wx fun r w' => r = .returned (.int .u64 (F i)) ∧ Old wx w') := fun i wx ho hi hL hz hm =>
    (lpow_any P Q G H a n cap (BA i) (L i) (C i) (B i) bz nz cz X wx h4 hr (by omega) hL ((HB.out.facs hi).old ho) (hX.old ho)).mono fun r w' ⟨h, k⟩ => ⟨by rw [h, hF, hL, hz], k⟩
  clear hF h4 hr hC hX
  by_cases hs0 : sz = 0
  · have HN : Hid (fitsB sz nz = false) := no_of fun h => (fitsB_iff.1 h).1 hs0
    have k1 : (sz : Int) = 0 := by omega
    clear hcl hs0
    go_enter Try.func15, Try.ntmps15
    go_upto_region 1 with fail
    have HW0 : Hid (Old w ((w.alloc (.cells (gc P Q G H a n cap) 25)).alloc (.cells (cc bt nt ct bb nb cb) 34))) := HZ.old
    generalize hW : (w.alloc (.cells (gc P Q G H a n cap) 25)).alloc (.cells (cc bt nt ct bb nb cb) 34) = W at *
    clear hW
    obtain ⟨d0, d1, d2, d3, d4, z0, z1⟩ := HT.out _ (Old.refl _)
    go_wp2_with (go_at_call 44; refine (HS.out _ HW0.out).mono ?_; rintro e w2 ⟨rfl, h2⟩)
    go_ret2
    exact ⟨HW0.out.trans h2, Or.inl ⟨HN.out, rfl⟩⟩
  by_cases hnw : nz = sz
  · have hcl := hcl hs0
    subst hnw
    have HN : Hid (fitsB nz nz = true) := fitsB_iff.2 ⟨hs0, rfl⟩
    have HP : Hid (∀ i wx, Old w wx → i < nb → Calls Try.prog 52 #[gv P Q G H a n cap, .slice (BA i) (L i) (C i), .slice bz nz cz] wx fun r w' => r = .returned (.int .u64 (F i)) ∧ Old wx w') := fun i wx ho hi => HPw.out i wx ho hi (hcl.len i (hcl.nb ▸ hi)) rfl (by have := hcl.n64; omega)
    have HNB : Hid (nb = nt) := hcl.nb
    have m1 : nb ≤ 80 := by have := hcl.nb; have := hcl.t64; omega
    have hpos : 0 < nb := by have := hcl.nb; have := hcl.t1; omega
    have k1 : ¬ (nz : Int) = 0 := by omega
    have k3 : ((nz : Int) == 0) = false := by simp; omega
    clear hcl HPw hs0
    rcases HB.out with h0 | ⟨bx, ox, hqx, _, hrx⟩
    · omega
    have HR : Hid (∀ w' j, Old w w' → j < nb → w'.cell? ⟨bx, ox + j, none⟩ = some (.slice (BA j) (L j) (C j))) := fun w' j ho hj => ho.cellOf (hrx j hj).1
    clear hrx
    subst hqx
    have hmk := make_run nb m1
    go_enter Try.func15, Try.ntmps15
    go_upto_region 1 with fail
    have HW0 : Hid (Old w ((w.alloc (.cells (gc P Q G H a n cap) 25)).alloc (.cells (cc bt nt ct (some ⟨bx, ox, none⟩) nb cb) 34))) := HZ.old
    generalize hW : (w.alloc (.cells (gc P Q G H a n cap) 25)).alloc (.cells (cc bt nt ct (some ⟨bx, ox, none⟩) nb cb) 34) = W at *
    clear hW
    obtain ⟨d0, d1, d2, d3, d4, z0, z1⟩ := HT.out _ (Old.refl _)
    go_upto_region 4 with (go_at_call 44; refine (HS.out _ HW0.out).mono ?_; rintro e w2 ⟨rfl, h2⟩; obtain ⟨d0, d1, d2, d3, d4, z0, z1⟩ := HT.out _ h2)
    go_upto_region 5 with fail
    have HFu := full_zero w2 nb F
    have HWx : Hid (Old W (w2.alloc (.cells (madeCells #[Value.int .u64 0] nb) 22))) := h2.alloc _
    have hlt0 : w2.heap.size < (w2.alloc (.cells (madeCells #[Value.int .u64 0] nb) 22)).heap.size := HFu.lt
    generalize w2.alloc (.cells (madeCells #[Value.int .u64 0] nb) 22) = W1 at *
    clear d0 d1 d2 d3 d4 z0 z1
    obtain ⟨d0, d1, d2, d3, d4, z0, z1⟩ := HT.out _ HWx.out
    have hsz := h2.size
    go_upto_region 6 with fail
    clear d0 d1 d2 d3 d4 z0 z1
    go_loopw [30] (fun iv wx => ∃ i : Nat, iv = .int .i64 (i : Int) ∧ i ≤ nb ∧ Hid (Full wx w2.heap.size nb (upTo i F)) ∧ Hid (Old W wx)) (fun iv _ => nb - (intOf iv).toNat)
    case atStart => exact ⟨0, rfl, Nat.zero_le _, HFu, HWx⟩
    case round =>
      obtain ⟨i, rfl, hi1, HNu, HW⟩ := hrel
      by_cases hlt : i < nb
      · obtain ⟨d0, d1, d2, d3, d4, z0, z1⟩ := HT.out _ HW.out
        have cx := HR.out _ i (HW0.out.trans HW.out) hlt
        have HC : Hid (Calls Try.prog 52 #[gv P Q G H a n cap, .slice (BA i) (L i) (C i), .slice bz nz cz] wr fun r w' => r = .returned (.int .u64 (F i)) ∧ Old wr w') := HP.out i wr (HW0.out.trans HW.out) hlt
        go_wp2_with (go_at_call 52; refine HC.out.mono ?_; rintro e w4 ⟨rfl, o4⟩; have h4 : Old W w4 := HW.out.trans o4; have hful := HNu.out.old o4; have q0 := hful.cell i hlt; have f0 := hful.free i)
        have HG : Hid (Full (w4.setCell ⟨w2.heap.size, i, none⟩ (.int .u64 (F i))) w2.heap.size nb (upTo (i + 1) F)) := hful.next
        have HG2 : Hid (Old W (w4.setCell ⟨w2.heap.size, i, none⟩ (.int .u64 (F i)))) := h4.setCell hsz _
        go_roundw
        case rel => exact ⟨i + 1, idx_next i, by omega, HG, HG2⟩
        case measure => simp [intOf]; omega
      · have he : nb = i := by omega
        subst he
        have HD : Hid (Full wr w2.heap.size nb F) := HNu.out.done
        go_wp2_with fail
        go_ret2
        have hnb := HNB.out
        refine ⟨HW0.out.trans HW.out, Or.inr ⟨HN.out, w2.heap.size, Nat.le_trans HW0.out.size hsz, ?_, ?_⟩⟩
        · rw [← hnb]; rfl
        · rw [← hnb]; exact HD.out
  · have HN : Hid (fitsB sz nz = false) := no_of fun h => hnw (fitsB_iff.1 h).2
    have k1 : ¬ (sz : Int) = 0 := by omega
    have k2 : ¬ (nz : Int) = (sz : Int) := by omega
    have k3 : ((sz : Int) == 0) = false := by simp; omega
    have k4 : ((nz : Int) != (sz : Int)) = true := by simp; omega
    have k5 : ((nz : Int) == (sz : Int)) = false := by simp; omega
    clear hcl hs0
    go_enter Try.func15, Try.ntmps15
    go_upto_region 1 with fail
    have HW0 : Hid (Old w ((w.alloc (.cells (gc P Q G H a n cap) 25)).alloc (.cells (cc bt nt ct bb nb cb) 34))) := HZ.old
    generalize hW : (w.alloc (.cells (gc P Q G H a n cap) 25)).alloc (.cells (cc bt nt ct bb nb cb) 34) = W at *
    clear hW
    obtain ⟨d0, d1, d2, d3, d4, z0, z1⟩ := HT.out _ (Old.refl _)
    go_wp2_with (go_at_call 44; refine (HS.out _ HW0.out).mono ?_; rintro e w2 ⟨rfl, h2⟩)
    go_ret2
    exact ⟨HW0.out.trans h2, Or.inl ⟨HN.out, rfl⟩⟩

theorem limage_any : Limage := fun P Q G H a n cap bt nt ct T bb nb cb BA L C B bz nz cz X w h4 hr _ _ _ hC hX =>
  (limage_gen P Q G H a n cap bt nt ct T bb nb cb BA L C B bz nz cz X w h4 hr hC hX).mono fun _ _ h => h.gives (Nat.le_trans hC.tc hC.tm)

end Go.Proofs.Ytokhpppealdfmaf

namespace Go.Proofs.Ytokhpppealdfmaf
open Go.RowKit

set_option maxHeartbeats 1000000 in
theorem lequal_any (b1 : Option Addr) (n1 c1 : Nat) (X : Nat → Int) (b2 : Option Addr) (n2 c2 : Nat) (Y : Nat → Int) (w : World) (m1 : n1 ≤ 9223372036854775807) (h1 : FacsIn w b1 n1 X) (h2 : FacsIn w b2 n2 Y) :
    Calls Try.prog 51 #[.slice b1 n1 c1, .slice b2 n2 c2] w fun e w' => e = .returned (.bool (sameB n1 X n2 Y)) ∧ Old w w' := by
  have HX : Hid (FacsIn w b1 n1 X) := h1
  have HY : Hid (FacsIn w b2 n2 Y) := h2
  clear h1 h2
  by_cases hn : n1 = n2
  · subst hn
    go_enter Try.func51, Try.ntmps51
    go_wp2_with fail
    go_loopw [13] (fun iv wx => ∃ i : Nat, iv = .int .i64 (i : Int) ∧ i ≤ n1 ∧ Hid (Old w wx) ∧ Hid (∀ j, j < i → X j = Y j)) (fun iv _ => n1 - (intOf iv).toNat)
    case atStart => exact ⟨0, rfl, Nat.zero_le _, Old.refl _, fun j hj => by omega⟩
    case round =>
      obtain ⟨i, rfl, hi, HO, HJ⟩ := hrel
      by_cases hlt : i < n1
      · rcases HX.out.old HO.out with h0 | ⟨bx, ox, hqx, _, hrx⟩
        · omega
        rcases HY.out.old HO.out with h0 | ⟨by_, oy, hqy, _, hry⟩
        · omega
        have cx := (hrx i hlt).1
        have cy := (hry i hlt).1
        clear hrx hry
        subst hqx hqy
        by_cases he : X i = Y i
        · have HM : Hid (X i = Y i) := he
          rw [← he] at cy
          clear he
          go_upto_region 6 with fail
          go_quiet (fail)
          go_wp2_with fail
          go_roundw
          case rel => exact ⟨i + 1, idx_next i, by omega, by first | exact HO.out | exact HO.out.drew | exact HO.out.drewN _, upto_succ HJ.out HM.out⟩
          case measure => simp [intOf]; omega
        · have HN : Hid (sameB n1 X n1 Y = false) := no_of fun hc => he ((sameB_iff.1 hc).2 i hlt)
          go_upto_region 6 with fail
          go_quiet (fail)
          go_wp2_with fail
          go_ret
          exact ⟨ret_bool HN.out.symm, by first | exact HO.out | exact HO.out.drew | exact HO.out.drewN _⟩
      · have he : n1 = i := by omega
        subst he
        have HN : Hid (sameB n1 X n1 Y = true) := sameB_iff.2 ⟨rfl, HJ.out⟩
        go_wp2_with fail
        go_ret
        exact ⟨ret_bool HN.out.symm, HO.out⟩
  · have HN : Hid (sameB n1 X n2 Y = false) := no_of fun hc => hn (sameB_iff.1 hc).1
    have k1 : ¬ (n1 : Int) = (n2 : Int) := by omega
    go_enter Try.func51, Try.ntmps51
    go_wp2_with fail
    go_ret
    exact ⟨ret_bool HN.out.symm, Old.refl _⟩


end Go.Proofs.Ytokhpppealdfmaf

namespace Go.Proofs.Ytokhpppealdfmaf
open Go.RowKit

set_option linter.unusedSimpArgs false in
set_option maxRecDepth 100000 in
set_option maxHeartbeats 8000000 in
theorem lholds_gen (P Q G H : Int) (a : Option Addr) (n cap : Nat) (bt : Option Addr) (nt ct : Nat) (T : Nat → Int) (bb : Option Addr) (nb cb : Nat) (BA : Nat → Option Addr) (L C : Nat → Nat) (B : Nat → Nat → Int) (bz : Option Addr) (nz cz : Nat) (X : Nat → Int) (w : World) (h4 : Four P Q G H) (hr : Righ P Q G) (hC : ClaimIn w bt nt ct T bb nb cb BA L C B) (hX : FacsIn w bz nz X) :
    Calls Try.prog 14 #[gv P Q G H a n cap, cv bt nt ct bb nb cb, .slice bz nz cz] w fun e w' => e = .returned (.bool (holdsL P Q nt T nb L B nz X)) ∧ Old w w' := by
  have HZ := lain2 w (gc P Q G H a n cap) (cc bt nt ct bb nb cb) 25 34
  have HT : Hid (∀ w', Old ((w.alloc (.cells (gc P Q G H a n cap) 25)).alloc (.cells (cc bt nt ct bb nb cb) 34)) w' → w'.cell? ⟨w.heap.size, 0, none⟩ = some (.int .u64 P) ∧ w'.cell? ⟨w.heap.size, 1, none⟩ = some (.int .u64 Q) ∧ w'.cell? ⟨w.heap.size, 2, none⟩ = some (.int .u64 G) ∧ w'.cell? ⟨w.heap.size, 3, none⟩ = some (.int .u64 H) ∧ w'.cell? ⟨w.heap.size, 4, none⟩ = some (.slice a n cap) ∧ w'.cell? ⟨w.heap.size + 1, 0, none⟩ = some (.slice bt nt ct) ∧ w'.cell? ⟨w.heap.size + 1, 1, none⟩ = some (.slice bb nb cb)) := fun w' ho => by
    have h := HZ.then ho
    exact ⟨h.cell 0 0 (by simp) rfl, h.cell 0 1 (by simp) rfl, h.cell 0 2 (by simp) rfl, h.cell 0 3 (by simp) rfl, h.cell 0 4 (by simp) rfl, h.cell 1 0 (by simp) rfl, h.cell 1 1 (by simp) rfl⟩
  have HC : Hid (ClaimIn w bt nt ct T bb nb cb BA L C B) := hC
  have HIm : Hid (∀ wx, Old w wx → Calls Try.prog 15 #[gv P Q G H a n cap, cv bt nt ct bb nb cb, .slice bz nz cz] wx (GivesF wx (fitsB (sizeN P Q nt T nb L B) nz) nt (fun j => imI P Q (B j) X (sizeN P Q nt T nb L B)))) := fun wx ho => limage_gen P Q G H a n cap bt nt ct T bb nb cb BA L C B bz nz cz X wx h4 hr (hC.old ho) (hX.old ho)
  have mt : nt ≤ 9223372036854775807 := Nat.le_trans hC.tc hC.tm
  unfold holdsL
  clear h4 hr hC hX
  obtain ⟨F, hFi⟩ : ∃ F : Nat → Int, F = fun j => imI P Q (B j) X (sizeN P Q nt T nb L B) := ⟨_, rfl⟩
  rw [← hFi] at HIm ⊢
  have HFU : Hid (∀ j, U64 (F j)) := fun j => by rw [hFi]; exact u64_prod _ _ _
  clear hFi
  have HSm : Hid (∀ b c wx, FacsIn wx b nt F → FacsIn wx bt nt T → Calls Try.prog 51 #[.slice b nt c, .slice bt nt ct] wx fun e w' => e = .returned (.bool (sameB nt F nt T)) ∧ Old wx w') := fun b c wx h1 h2 => lequal_any b nt c F bt nt ct T wx mt h1 h2
  generalize fitsB (sizeN P Q nt T nb L B) nz = ok at *
  generalize sameB nt F nt T = sm0 at *
  go_enter Try.func14, Try.ntmps14
  go_upto_region 1 with fail
  have HW0 : Hid (Old w ((w.alloc (.cells (gc P Q G H a n cap) 25)).alloc (.cells (cc bt nt ct bb nb cb) 34))) := HZ.old
  generalize hW : (w.alloc (.cells (gc P Q G H a n cap) 25)).alloc (.cells (cc bt nt ct bb nb cb) 34) = W at *
  clear hW
  obtain ⟨d0, d1, d2, d3, d4, t0, t1⟩ := HT.out _ (Old.refl _)
  cases ok with
  | false =>
    go_upto_region 2 with (go_at_call 15; refine (HIm.out _ HW0.out).mono ?_; rintro e w2 ⟨h2, ⟨_, rfl⟩ | ⟨hno, _⟩⟩; rotate_left; exact absurd hno (by decide))
    clear d0 d1 d2 d3 d4 t0 t1
    go_wp2_with fail
    go_ret
    exact ⟨rfl, HW0.out.trans h2⟩
  | true =>
    go_upto_region 2 with (go_at_call 15; refine (HIm.out _ HW0.out).mono ?_; rintro e w2 ⟨h2, ⟨hno, _⟩ | ⟨_, bf, hbf, rfl, hff⟩⟩; exact absurd hno (by decide))
    have HS' : Hid (Calls Try.prog 51 #[.slice (some ⟨bf, 0, none⟩) nt nt, .slice bt nt ct] w2 fun e w' => e = .returned (.bool sm0) ∧ Old w2 w') := HSm.out _ nt w2 (hff.facs fun j _ => HFU.out j) (HC.out.tar.old (HW0.out.trans h2))
    clear hff
    clear d0 d1 d2 d3 d4 t0 t1
    obtain ⟨d0, d1, d2, d3, d4, t0, t1⟩ := HT.out _ h2
    go_wp2_with (go_at_call 51; refine HS'.out.mono ?_; rintro e w3 ⟨rfl, h3⟩)
    go_ret
    exact ⟨rfl, (HW0.out.trans h2).trans h3⟩

theorem lholds_any : Lholds := fun P Q G H a n cap bt nt ct T bb nb cb BA L C B bz nz cz X w h4 hr _ _ _ hC hX =>
  lholds_gen P Q G H a n cap bt nt ct T bb nb cb BA L C B bz nz cz X w h4 hr hC hX

end Go.Proofs.Ytokhpppealdfmaf
