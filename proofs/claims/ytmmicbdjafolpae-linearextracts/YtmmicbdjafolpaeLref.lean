/-
  The contracts of the document's functions of layer 6: the same numbers, answers, draws, what is extracted.
-/
import Derived.Test.YtmmicbdjafolpaeLlie
import Derived.Deep.RegionHeld3
import Derived.Deep.AppendLies
namespace Go.Proofs.Ytmmicbdjafolpae
open Go.RowKit

/-- A list of numbers of its own, and whether there is one. -/
def Gives (w : World) (ok : Bool) (k : Nat) (F : Nat → Int) (r : Ending) (w' : World) : Prop := ∃ v, r = .returned (.tuple #[v, .bool ok]) ∧ Nums w' w.heap.size v (if ok then k else 0) F ∧ Old w w'
theorem Nums.mono {w : World} {base base' k : Nat} {v : Value} {F : Nat → Int} (h : Nums w base v k F) (hb : base' ≤ base) : Nums w base' v k F := World.ownsRow.mono h hb

theorem gives_yes {w w' : World} {ok : Bool} {k : Nat} {F : Nat → Int} {v : Value} (hok : ok = true) (hN : Nums w' w.heap.size v k F) (ho : Old w w') : Gives w ok k F (.returned (.tuple #[v, .bool true])) w' := by
  subst hok
  exact ⟨v, rfl, by simpa using hN, ho⟩
theorem gives_no {w w' : World} {ok : Bool} {k : Nat} {F : Nat → Int} (hok : ok = false) (ho : Old w w') : Gives w ok k F (.returned (.tuple #[.slice none 0 0, .bool false])) w' := by
  subst hok
  exact ⟨_, rfl, by simpa using nums_nil w' w.heap.size F, ho⟩

set_option maxHeartbeats 1000000 in
theorem rsame_any (b1 : Option Addr) (n1 c1 : Nat) (X : Nat → Int) (b2 : Option Addr) (n2 c2 : Nat) (Y : Nat → Int) (w : World) (m1 : n1 ≤ 9223372036854775807) (h1 : FacsIn w b1 n1 X) (h2 : FacsIn w b2 n2 Y) :
    Calls Try.prog 22 #[.slice b1 n1 c1, .slice b2 n2 c2] w fun e w' => e = .returned (.bool (sameB n1 X n2 Y)) ∧ Old w w' := by
  have HX : Hid (FacsIn w b1 n1 X) := h1
  have HY : Hid (FacsIn w b2 n2 Y) := h2
  clear h1 h2
  by_cases hn : n1 = n2
  · subst hn
    go_enter Try.func22, Try.ntmps22
    go_wp2_with fail
    go_loopw [5] (fun iv wx => ∃ i : Nat, iv = .int .i64 (i : Int) ∧ i ≤ n1 ∧ Hid (Old w wx) ∧ Hid (∀ j, j < i → X j = Y j)) (fun iv _ => n1 - (intOf iv).toNat)
    case atStart => exact ⟨0, rfl, Nat.zero_le _, Old.refl _, fun j hj => by omega⟩
    case round =>
      obtain ⟨i, rfl, hi, HO, HJ⟩ := hrel
      by_cases hlt : i < n1
      · rcases HX.out.old HO.out with h0 | ⟨bx, ox, hqx, _, hrx⟩
        · omega
        rcases HY.out.old HO.out with h0 | ⟨by_, oy, hqy, _, hry⟩
        · omega
        have cx := (hrx i hlt).1
        have cy := (hry i hlt).1
        clear hrx hry
        subst hqx hqy
        by_cases he : X i = Y i
        · have HM : Hid (X i = Y i) := he
          rw [← he] at cy
          clear he
          go_upto_region 6 with fail
          go_quiet (fail)
          go_wp2_with fail
          go_roundw
          case rel => exact ⟨i + 1, idx_next i, by omega, by first | exact HO.out | exact HO.out.drew | exact HO.out.drewN _, upto_succ HJ.out HM.out⟩
          case measure => simp [intOf]; omega
        · have HN : Hid (sameB n1 X n1 Y = false) := no_of fun hc => he ((sameB_iff.1 hc).2 i hlt)
          go_upto_region 6 with fail
          go_quiet (fail)
          go_wp2_with fail
          go_ret
          exact ⟨ret_bool HN.out.symm, by first | exact HO.out | exact HO.out.drew | exact HO.out.drewN _⟩
      · have he : n1 = i := by omega
        subst he
        have HN : Hid (sameB n1 X n1 Y = true) := sameB_iff.2 ⟨rfl, HJ.out⟩
        go_wp2_with fail
        go_ret
        exact ⟨ret_bool HN.out.symm, HO.out⟩
  · have HN : Hid (sameB n1 X n2 Y = false) := no_of fun hc => hn (sameB_iff.1 hc).1
    have k1 : ¬ (n1 : Int) = (n2 : Int) := by omega
    go_enter Try.func22, Try.ntmps22
    go_wp2_with fail
    go_ret
    exact ⟨ret_bool HN.out.symm, Old.refl _⟩

set_option maxHeartbeats 4000000 in
theorem ranswer_any (P Q G H : Int) (a : Option Addr) (n cap : Nat) (b1 : Option Addr) (n1 c1 : Nat) (X : Nat → Int) (b2 : Option Addr) (n2 c2 : Nat) (Y : Nat → Int) (e : Int) (w : World) (he : U64 e) (m1 : n1 ≤ 80) (h1 : FacsIn w b1 n1 X) (h2 : FacsIn w b2 n2 Y) :
    Calls Try.prog 30 #[gv P Q G H a n cap, .slice b1 n1 c1, .slice b2 n2 c2, .int .u64 e] w (Gives w (decide (n1 = n2)) n1 (fun k => ansI Q e (X k) (Y k))) := by
  have HX : Hid (FacsIn w b1 n1 X) := h1
  have HY : Hid (FacsIn w b2 n2 Y) := h2
  have HZ := lain1 w (gc P Q G H a n cap) 25
  by_cases hn : n1 = n2
  · subst hn
    obtain ⟨M, hM⟩ : ∃ M : Nat → Int, M = fun k => mulI e (X k) Q := ⟨_, rfl⟩
    obtain ⟨F, hF⟩ : ∃ F : Nat → Int, F = fun k => ansI Q e (X k) (Y k) := ⟨_, rfl⟩
    have H1 : Hid (∀ i wx, i < n1 → Calls Try.prog 45 #[.int .u64 e, .int .u64 (X i), .int .u64 Q] wx fun r w' => r = .returned (.int .u64 (M i)) ∧ Old wx w') := fun i wx hi => (rmul_any e (X i) Q wx he.1 he.2 (h1.u64 i hi).1 (h1.u64 i hi).2).mono fun r w' ⟨h, k⟩ => ⟨by rw [h, hM], (Old.refl _).draws k⟩
    have H2 : Hid (∀ i wx, i < n1 → Calls Try.prog 53 #[.int .u64 (Y i), .int .u64 (M i), .int .u64 Q] wx fun r w' => r = .returned (.int .u64 (F i)) ∧ Old wx w') := fun i wx hi => (radd_any (Y i) (M i) Q wx (h2.u64 i hi).1 (h2.u64 i hi).2 (by rw [hM]; exact (u64_mul _ _ _).1) (by rw [hM]; exact (u64_mul _ _ _).2)).mono fun r w' ⟨h, k⟩ => ⟨by rw [h, hF, hM]; rfl, (Old.refl _).draws k⟩
    rw [← hF]
    clear hF hM he h1 h2
    obtain ⟨i0, hi, hz0, hz1, hz2⟩ := info_parts u64info
    go_enter Try.func30, Try.ntmps30
    go_upto_region 1 with fail
    generalize hW : w.alloc (.cells (gc P Q G H a n cap) 25) = W at *
    clear hW
    go_wp2_with fail
    go_loopw [10, 11] (fun v iv wx => ∃ i : Nat, iv = .int .i64 (i : Int) ∧ i ≤ n1 ∧ Hid (Nums wx W.heap.size v i F) ∧ Hid (Old W wx)) (fun _ iv _ => n1 - (intOf iv).toNat)
    case atStart => exact ⟨0, rfl, Nat.zero_le _, nums_nil _ _ _, Old.refl _⟩
    case round =>
      obtain ⟨i, rfl, hi1, HN, HW⟩ := hrel
      by_cases hlt : i < n1
      · rcases HX.out with h0 | ⟨bx, ox, hqx, _, hrx⟩
        · omega
        rcases HY.out with h0 | ⟨by_, oy, hqy, _, hry⟩
        · omega
        have HT : Hid (∀ w', Old W w' → w'.cell? ⟨w.heap.size, 1, none⟩ = some (.int .u64 Q) ∧ w'.cell? ⟨bx, ox + i, none⟩ = some (.int .u64 (X i)) ∧ w'.cell? ⟨by_, oy + i, none⟩ = some (.int .u64 (Y i))) := fun w' ho => ⟨(HZ.then ho).cell 0 1 (by simp) rfl, (HZ.old.trans ho).cellOf (hrx i hlt).1, (HZ.old.trans ho).cellOf (hry i hlt).1⟩
        clear hrx hry
        subst hqx hqy
        obtain ⟨dq, cx, cy⟩ := HT.out _ HW.out
        have HM : Hid (∀ wx, Calls Try.prog 45 #[.int .u64 e, .int .u64 (X i), .int .u64 Q] wx fun r w' => r = .returned (.int .u64 (M i)) ∧ Old wx w') := fun wx => H1.out i wx hlt
        have HA : Hid (∀ wx, Calls Try.prog 53 #[.int .u64 (Y i), .int .u64 (M i), .int .u64 Q] wx fun r w' => r = .returned (.int .u64 (F i)) ∧ Old wx w') := fun wx => H2.out i wx hlt
        go_upto_region 7 with fail
        go_region_held3 (fun w' => w'.cell? ⟨w.heap.size, 1, none⟩ = some (.int .u64 Q) ∧ w'.cell? ⟨bx, ox + i, none⟩ = some (.int .u64 (X i)) ∧ w'.cell? ⟨by_, oy + i, none⟩ = some (.int .u64 (Y i))) (first | exact HT.out _ h6 | exact HT.out _ h5 | exact HT.out _ (h5.alloc _) | exact HT.out _ h4 | exact HT.out _ HW.out.drew) (first
          | (go_at_call 45; refine (HM.out _).mono ?_; rintro e w4 ⟨rfl, o4⟩; have h4 : Old W w4 := HW.out.drew.trans o4)
          | (go_at_call 53; refine (HA.out _).mono ?_; rintro e w5 ⟨rfl, o5⟩; have h5 : Old W w5 := h4.trans o5; have hown := HN.out.old (((Old.refl wr).drew.trans o4).trans o5); have hs5 := h5.size)
          | (refine step_append_lies _ rfl (.tmp 23) (.tmp 39) 34 rfl W.heap.size 22 i0 (.int .u64 0) 1 8 Try.underlying34 hi hz0 hz1 hz2 rfl (by decide) _ _ _ rfl (World.ownsRow.alloc hown _) ⟨w5.heap.size, 0, none⟩ 1 1 [.int .u64 (F i)] rfl rfl (cell_one_new _ _ _) (by intro u hu; simp at hu; subst hu; rfl) (by decide) (by unfold maxLen; omega) (by omega) (by simp; omega) _ rfl ?_; intro g6 cap6 w6 hown6 hgrow6 _ _; have h6 : Old W w6 := Nums.grown hown h5 hgrow6))
        go_wp2_with fail
        go_roundw
        case rel => exact ⟨i + 1, idx_next i, by omega, Nums.app hown6 rfl, h6⟩
        case measure => simp [intOf]; omega
      · have he : n1 = i := by omega
        subst he
        go_wp2_with fail
        go_ret2
        exact gives_yes (by simp) (HN.out.mono HZ.old.size) (HZ.old.trans HW.out)
  · have k1 : ¬ (n1 : Int) = (n2 : Int) := by omega
    clear he h1 h2
    go_enter Try.func30, Try.ntmps30
    go_wp2_with fail
    go_ret2
    exact gives_no (by simp [hn]) ((Old.refl _).alloc _)

set_option maxHeartbeats 4000000 in
theorem rdraws_any (P Q G H : Int) (a : Option Addr) (n cap : Nat) (b1 : Option Addr) (n1 c1 : Nat) (X : Nat → Int) (b2 : Option Addr) (n2 c2 : Nat) (Y : Nat → Int) (e : Int) (w : World) (he : U64 e) (m1 : n1 ≤ 80) (h1 : FacsIn w b1 n1 X) (h2 : FacsIn w b2 n2 Y) :
    Calls Try.prog 32 #[gv P Q G H a n cap, .slice b1 n1 c1, .slice b2 n2 c2, .int .u64 e] w (Gives w (decide (n1 = n2)) n1 (fun k => drwI Q e (X k) (Y k))) := by
  have HX : Hid (FacsIn w b1 n1 X) := h1
  have HY : Hid (FacsIn w b2 n2 Y) := h2
  have HZ := lain1 w (gc P Q G H a n cap) 25
  by_cases hn : n1 = n2
  · subst hn
    obtain ⟨M, hM⟩ : ∃ M : Nat → Int, M = fun k => mulI e (X k) Q := ⟨_, rfl⟩
    obtain ⟨F, hF⟩ : ∃ F : Nat → Int, F = fun k => drwI Q e (X k) (Y k) := ⟨_, rfl⟩
    have H1 : Hid (∀ i wx, i < n1 → Calls Try.prog 45 #[.int .u64 e, .int .u64 (X i), .int .u64 Q] wx fun r w' => r = .returned (.int .u64 (M i)) ∧ Old wx w') := fun i wx hi => (rmul_any e (X i) Q wx he.1 he.2 (h1.u64 i hi).1 (h1.u64 i hi).2).mono fun r w' ⟨h, k⟩ => ⟨by rw [h, hM], (Old.refl _).draws k⟩
    have H2 : Hid (∀ i wx, i < n1 → Calls Try.prog 55 #[.int .u64 (Y i), .int .u64 (M i), .int .u64 Q] wx fun r w' => r = .returned (.int .u64 (F i)) ∧ Old wx w') := fun i wx hi => (rsub_any (Y i) (M i) Q wx (h2.u64 i hi).1 (h2.u64 i hi).2 (by rw [hM]; exact (u64_mul _ _ _).1) (by rw [hM]; exact (u64_mul _ _ _).2)).mono fun r w' ⟨h, k⟩ => ⟨by rw [h, hF, hM]; rfl, (Old.refl _).draws k⟩
    rw [← hF]
    clear hF hM he h1 h2
    obtain ⟨i0, hi, hz0, hz1, hz2⟩ := info_parts u64info
    go_enter Try.func32, Try.ntmps32
    go_upto_region 1 with fail
    generalize hW : w.alloc (.cells (gc P Q G H a n cap) 25) = W at *
    clear hW
    go_wp2_with fail
    go_loopw [10, 11] (fun v iv wx => ∃ i : Nat, iv = .int .i64 (i : Int) ∧ i ≤ n1 ∧ Hid (Nums wx W.heap.size v i F) ∧ Hid (Old W wx)) (fun _ iv _ => n1 - (intOf iv).toNat)
    case atStart => exact ⟨0, rfl, Nat.zero_le _, nums_nil _ _ _, Old.refl _⟩
    case round =>
      obtain ⟨i, rfl, hi1, HN, HW⟩ := hrel
      by_cases hlt : i < n1
      · rcases HX.out with h0 | ⟨bx, ox, hqx, _, hrx⟩
        · omega
        rcases HY.out with h0 | ⟨by_, oy, hqy, _, hry⟩
        · omega
        have HT : Hid (∀ w', Old W w' → w'.cell? ⟨w.heap.size, 1, none⟩ = some (.int .u64 Q) ∧ w'.cell? ⟨bx, ox + i, none⟩ = some (.int .u64 (X i)) ∧ w'.cell? ⟨by_, oy + i, none⟩ = some (.int .u64 (Y i))) := fun w' ho => ⟨(HZ.then ho).cell 0 1 (by simp) rfl, (HZ.old.trans ho).cellOf (hrx i hlt).1, (HZ.old.trans ho).cellOf (hry i hlt).1⟩
        clear hrx hry
        subst hqx hqy
        obtain ⟨dq, cx, cy⟩ := HT.out _ HW.out
        have HM : Hid (∀ wx, Calls Try.prog 45 #[.int .u64 e, .int .u64 (X i), .int .u64 Q] wx fun r w' => r = .returned (.int .u64 (M i)) ∧ Old wx w') := fun wx => H1.out i wx hlt
        have HA : Hid (∀ wx, Calls Try.prog 55 #[.int .u64 (Y i), .int .u64 (M i), .int .u64 Q] wx fun r w' => r = .returned (.int .u64 (F i)) ∧ Old wx w') := fun wx => H2.out i wx hlt
        go_upto_region 7 with fail
        go_region_held3 (fun w' => w'.cell? ⟨w.heap.size, 1, none⟩ = some (.int .u64 Q) ∧ w'.cell? ⟨bx, ox + i, none⟩ = some (.int .u64 (X i)) ∧ w'.cell? ⟨by_, oy + i, none⟩ = some (.int .u64 (Y i))) (first | exact HT.out _ h6 | exact HT.out _ h5 | exact HT.out _ (h5.alloc _) | exact HT.out _ h4 | exact HT.out _ HW.out.drew) (first
          | (go_at_call 45; refine (HM.out _).mono ?_; rintro e w4 ⟨rfl, o4⟩; have h4 : Old W w4 := HW.out.drew.trans o4)
          | (go_at_call 55; refine (HA.out _).mono ?_; rintro e w5 ⟨rfl, o5⟩; have h5 : Old W w5 := h4.trans o5; have hown := HN.out.old (((Old.refl wr).drew.trans o4).trans o5); have hs5 := h5.size)
          | (refine step_append_lies _ rfl (.tmp 23) (.tmp 39) 34 rfl W.heap.size 22 i0 (.int .u64 0) 1 8 Try.underlying34 hi hz0 hz1 hz2 rfl (by decide) _ _ _ rfl (World.ownsRow.alloc hown _) ⟨w5.heap.size, 0, none⟩ 1 1 [.int .u64 (F i)] rfl rfl (cell_one_new _ _ _) (by intro u hu; simp at hu; subst hu; rfl) (by decide) (by unfold maxLen; omega) (by omega) (by simp; omega) _ rfl ?_; intro g6 cap6 w6 hown6 hgrow6 _ _; have h6 : Old W w6 := Nums.grown hown h5 hgrow6))
        go_wp2_with fail
        go_roundw
        case rel => exact ⟨i + 1, idx_next i, by omega, Nums.app hown6 rfl, h6⟩
        case measure => simp [intOf]; omega
      · have he : n1 = i := by omega
        subst he
        go_wp2_with fail
        go_ret2
        exact gives_yes (by simp) (HN.out.mono HZ.old.size) (HZ.old.trans HW.out)
  · have k1 : ¬ (n1 : Int) = (n2 : Int) := by omega
    clear he h1 h2
    go_enter Try.func32, Try.ntmps32
    go_wp2_with fail
    go_ret2
    exact gives_no (by simp [hn]) ((Old.refl _).alloc _)

set_option maxHeartbeats 4000000 in
theorem rextract_any (P Q G H : Int) (a : Option Addr) (n cap : Nat) (e : Int) (b1 : Option Addr) (n1 c1 : Nat) (X : Nat → Int) (f : Int) (b2 : Option Addr) (n2 c2 : Nat) (Y : Nat → Int) (w : World) (he : U64 e) (hf : U64 f) (m1 : n1 ≤ 80) (h1 : FacsIn w b1 n1 X) (h2 : FacsIn w b2 n2 Y) :
    Calls Try.prog 34 #[gv P Q G H a n cap, .int .u64 e, .slice b1 n1 c1, .int .u64 f, .slice b2 n2 c2] w (Gives w (invB (subI e f Q) Q && decide (n1 = n2)) n1 (fun k => exI Q (invI (subI e f Q) Q) (X k) (Y k))) := by
  have HX : Hid (FacsIn w b1 n1 X) := h1
  have HY : Hid (FacsIn w b2 n2 Y) := h2
  have HZ := lain1 w (gc P Q G H a n cap) 25
  have hsb := subI_bd e f Q
  have HS : Hid (∀ wx, Calls Try.prog 55 #[.int .u64 e, .int .u64 f, .int .u64 Q] wx fun r w' => r = .returned (.int .u64 (subI e f Q)) ∧ Old wx w') := fun wx => (rsub_any e f Q wx he.1 he.2 hf.1 hf.2).mono fun r w' ⟨h, k⟩ => ⟨h, (Old.refl _).draws k⟩
  have HI : Hid (∀ wx, Calls Try.prog 57 #[.int .u64 (subI e f Q), .int .u64 Q] wx fun r w' => r = .returned (.tuple #[.int .u64 (invI (subI e f Q) Q), .bool (invB (subI e f Q) Q)]) ∧ Old wx w') := fun wx => (rinv_any (subI e f Q) Q wx hsb.1 (by omega)).mono fun r w' ⟨h, k⟩ => ⟨h, (Old.refl _).draws k⟩
  have hib := invI_bd (subI e f Q) Q
  clear he hf hsb
  generalize invI (subI e f Q) Q = I at *
  generalize invB (subI e f Q) Q = ok at *
  generalize subI e f Q = s at *
  have HT0 : Hid (∀ w', Old (w.alloc (.cells (gc P Q G H a n cap) 25)) w' → w'.cell? ⟨w.heap.size, 1, none⟩ = some (.int .u64 Q)) := fun w' ho => (HZ.then ho).cell 0 1 (by simp) rfl
  obtain ⟨M, hM⟩ : ∃ M : Nat → Int, M = fun k => subI (X k) (Y k) Q := ⟨_, rfl⟩
  obtain ⟨F, hF⟩ : ∃ F : Nat → Int, F = fun k => exI Q I (X k) (Y k) := ⟨_, rfl⟩
  have H1 : Hid (n1 = n2 → ∀ i wx, i < n1 → Calls Try.prog 55 #[.int .u64 (X i), .int .u64 (Y i), .int .u64 Q] wx fun r w' => r = .returned (.int .u64 (M i)) ∧ Old wx w') := fun hn i wx hi => (rsub_any (X i) (Y i) Q wx (h1.u64 i hi).1 (h1.u64 i hi).2 (h2.u64 i (by omega)).1 (h2.u64 i (by omega)).2).mono fun r w' ⟨h, k⟩ => ⟨by rw [h, hM], (Old.refl _).draws k⟩
  have H2 : Hid (∀ i wx, i < n1 → Calls Try.prog 45 #[.int .u64 I, .int .u64 (M i), .int .u64 Q] wx fun r w' => r = .returned (.int .u64 (F i)) ∧ Old wx w') := fun i wx hi => (rmul_any I (M i) Q wx hib.1 (by omega) (by rw [hM]; exact (subI_bd _ _ _).1) (by rw [hM]; exact Int.le_trans (subI_bd _ _ _).2 (by decide))).mono fun r w' ⟨h, k⟩ => ⟨by rw [h, hF, hM]; rfl, (Old.refl _).draws k⟩
  rw [← hF]
  clear hF hM h1 h2 hib
  obtain ⟨i0, hi, hz0, hz1, hz2⟩ := info_parts u64info
  go_enter Try.func34, Try.ntmps34
  go_upto_region 1 with fail
  generalize hW : w.alloc (.cells (gc P Q G H a n cap) 25) = W at *
  clear hW
  have dq := HT0.out _ (Old.refl _)
  go_region_held3 (fun w' => w'.cell? ⟨w.heap.size, 1, none⟩ = some (.int .u64 Q)) (first | exact HT0.out _ h2 | exact HT0.out _ h1 | exact HT0.out _ (Old.refl _).drew) (first
    | (go_at_call 55; refine (HS.out _).mono ?_; rintro e w1 ⟨rfl, o1⟩; have h1 : Old W w1 := (Old.refl _).drew.trans o1)
    | (go_at_call 57; refine (HI.out _).mono ?_; rintro e w2 ⟨rfl, o2⟩; have h2 : Old W w2 := h1.trans o2))
  clear HS HI dq
  cases ok with
  | false =>
    go_wp2_with fail
    go_ret2
    exact gives_no (by simp) (HZ.old.trans h2)
  | true =>
    by_cases hn : n1 = n2
    · subst hn
      have HW2 : Hid (Old W w2) := h2
      clear h2 o2 o1 h1
      go_wp2_with fail
      go_loopw [14, 15] (fun v iv wx => ∃ i : Nat, iv = .int .i64 (i : Int) ∧ i ≤ n1 ∧ Hid (Nums wx W.heap.size v i F) ∧ Hid (Old W wx)) (fun _ iv _ => n1 - (intOf iv).toNat)
      case atStart => exact ⟨0, rfl, Nat.zero_le _, nums_nil _ _ _, HW2⟩
      case round =>
        obtain ⟨i, rfl, hi1, HN, HW⟩ := hrel
        by_cases hlt : i < n1
        · rcases HX.out with h0 | ⟨bx, ox, hqx, _, hrx⟩
          · omega
          rcases HY.out with h0 | ⟨by_, oy, hqy, _, hry⟩
          · omega
          have HT : Hid (∀ w', Old W w' → w'.cell? ⟨w.heap.size, 1, none⟩ = some (.int .u64 Q) ∧ w'.cell? ⟨bx, ox + i, none⟩ = some (.int .u64 (X i)) ∧ w'.cell? ⟨by_, oy + i, none⟩ = some (.int .u64 (Y i))) := fun w' ho => ⟨(HZ.then ho).cell 0 1 (by simp) rfl, (HZ.old.trans ho).cellOf (hrx i hlt).1, (HZ.old.trans ho).cellOf (hry i hlt).1⟩
          clear hrx hry
          subst hqx hqy
          obtain ⟨dq, cx, cy⟩ := HT.out _ HW.out
          have HM : Hid (∀ wx, Calls Try.prog 55 #[.int .u64 (X i), .int .u64 (Y i), .int .u64 Q] wx fun r w' => r = .returned (.int .u64 (M i)) ∧ Old wx w') := fun wx => H1.out (by trivial) i wx hlt
          have HA : Hid (∀ wx, Calls Try.prog 45 #[.int .u64 I, .int .u64 (M i), .int .u64 Q] wx fun r w' => r = .returned (.int .u64 (F i)) ∧ Old wx w') := fun wx => H2.out i wx hlt
          go_upto_region 8 with fail
          go_region_held3 (fun w' => w'.cell? ⟨w.heap.size, 1, none⟩ = some (.int .u64 Q) ∧ w'.cell? ⟨bx, ox + i, none⟩ = some (.int .u64 (X i)) ∧ w'.cell? ⟨by_, oy + i, none⟩ = some (.int .u64 (Y i))) (first | exact HT.out _ h6 | exact HT.out _ h5 | exact HT.out _ (h5.alloc _) | exact HT.out _ h4 | exact HT.out _ HW.out.drew) (first
            | (go_at_call 55; refine (HM.out _).mono ?_; rintro e w4 ⟨rfl, o4⟩; have h4 : Old W w4 := HW.out.drew.trans o4)
            | (go_at_call 45; refine (HA.out _).mono ?_; rintro e w5 ⟨rfl, o5⟩; have h5 : Old W w5 := h4.trans o5; have hown := HN.out.old (((Old.refl wr).drew.trans o4).trans o5); have hs5 := h5.size)
            | (refine step_append_lies _ rfl (.tmp 42) (.tmp 58) 34 rfl W.heap.size 22 i0 (.int .u64 0) 1 8 Try.underlying34 hi hz0 hz1 hz2 rfl (by decide) _ _ _ rfl (World.ownsRow.alloc hown _) ⟨w5.heap.size, 0, none⟩ 1 1 [.int .u64 (F i)] rfl rfl (cell_one_new _ _ _) (by intro u hu; simp at hu; subst hu; rfl) (by decide) (by unfold maxLen; omega) (by omega) (by simp; omega) _ rfl ?_; intro g6 cap6 w6 hown6 hgrow6 _ _; have h6 : Old W w6 := Nums.grown hown h5 hgrow6))
          go_wp2_with fail
          go_roundw
          case rel => exact ⟨i + 1, idx_next i, by omega, Nums.app hown6 rfl, h6⟩
          case measure => simp [intOf]; omega
        · have he : n1 = i := by omega
          subst he
          go_wp2_with fail
          go_ret2
          exact gives_yes (by simp) (HN.out.mono HZ.old.size) (HZ.old.trans HW.out)
    · have k1 : ¬ (n1 : Int) = (n2 : Int) := by omega
      go_wp2_with fail
      go_ret2
      exact gives_no (by simp [hn]) (HZ.old.trans h2)

end Go.Proofs.Ytmmicbdjafolpae
