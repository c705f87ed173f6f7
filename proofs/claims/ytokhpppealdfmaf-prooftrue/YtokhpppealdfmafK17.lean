/-
  The contract of the program's Sum (layer 3).
-/
import Derived.Test.YtokhpppealdfmafK16
namespace Go.Proofs.Ytokhpppealdfmaf
open Go.RowKit

theorem index_arr (g : Nat → Int) (i : Nat) (wx : World) (h : i < 8) : (Instr.index 125 (.agg (arr 8 fun i => .int .u32 (g i))) (.int .i64 (i : Int))).run Try.prog wx = .ok (.int .u32 (g i)) wx := by
  have ha : (arr 8 fun i => Value.int .u32 (g i))[i]? = some (.int .u32 (g i)) := arr_at h
  have hu := run_underlying (P := Try.prog) Try.underlying125 wx
  have hb : (0 : Int) ≤ (i : Int) ∧ (i : Int) < ((8 : Nat) : Int) := by omega
  have h1 := Try.sizeOf124 wx
  simp [Instr.index, asIntOf, hu, h, h1, part, ha]
theorem endL_bd (n : Nat) : Bts (endL n) := by
  intro x hx
  simp only [endL, List.mem_append, List.mem_singleton, List.mem_replicate] at hx
  rcases hx with (rfl | ⟨_, rfl⟩) | hx
  · omega
  · omega
  · exact bytesL_bd _ _ x hx
theorem row_after {wx w' : World} {t : TypeId} (h : Old (wx.alloc (.cells (arr 8 fun _ => .int .u32 0) t)) w') : w'.rowIs wx.heap.size t 8 (fun _ => .int .u32 0) := h.row (row_new wx t 8 _)
theorem store_after {P : Program} {wx w' : World} {t : TypeId} {g : Nat → Int} (h : Old (wx.alloc (.cells (arr 8 fun _ => .int .u32 0) t)) w') : (storeCells ⟨wx.heap.size, 0, none⟩ (arr 8 fun i => .int .u32 (g i)).toList 0).run P w' = .ok () (w'.setRow wx.heap.size (arr 8 fun i => .int .u32 (g i))) := storeCells_arr (row_after h)
theorem sum_last {w w2 : World} {t : TypeId} {g : Nat → Int} (h : Old w w2) : ∃ b, Value.pointer (some ⟨w2.heap.size, 0, none⟩) = .pointer (some ⟨b, 0, none⟩) ∧ Hid (Old w (w2.alloc (.cells (arr 8 fun i => .int .u32 (g i)) t)) ∧ w.heap.size ≤ b ∧ (w2.alloc (.cells (arr 8 fun i => .int .u32 (g i)) t)).rowIs b t 8 (fun i => .int .u32 (g i))) :=
  ⟨_, rfl, h.alloc _, h.size, row_new _ _ _ _⟩
theorem sum_early {w wx w2 : World} {t : TypeId} {g : Nat → Int} (h1 : Old w wx) (h2 : Old (wx.alloc (.cells (arr 8 fun _ => .int .u32 0) t)) w2) : ∃ b, Value.pointer (some ⟨wx.heap.size, 0, none⟩) = .pointer (some ⟨b, 0, none⟩) ∧ Hid (Old w (w2.setRow wx.heap.size (arr 8 fun i => .int .u32 (g i))) ∧ w.heap.size ≤ b ∧ (w2.setRow wx.heap.size (arr 8 fun i => .int .u32 (g i))).rowIs b t 8 (fun i => .int .u32 (g i))) :=
  ⟨_, rfl, ((h1.alloc _).trans h2).setRow h1.size _, h1.size, row_set (row_after h2) _⟩

set_option maxRecDepth 100000 in
set_option maxHeartbeats 4000000 in
theorem dsum_any (xs : List Int) (w : World) (hx : Bts xs) (hl : xs.length ≤ 1000000) :
    Calls Try.prog 89 #[.string (strOfNums xs)] w fun e w' => e = .returned (.string (strOfNums (sumL xs))) ∧ Old w w' := by
  obtain ⟨m, hm⟩ : ∃ m, m = xs.length / 64 := ⟨_, rfl⟩
  have hzs : ∀ n f, (arr n f).size = n := arr_size
  have hadd : ∀ xs ys : List Int, strOfNums xs ++ strOfNums ys = strOfNums (xs ++ ys) := str_add
  have hsz : ∀ xs : List Int, (strOfNums xs).size = xs.length := strOfNums_size
  have hW : (xs.length : Int) - (xs.length : Int) % 64 = 64 * (m : Int) := by omega
  have hW0 : (0 : Int) ≤ 64 * (m : Int) := by omega
  have hW1 : 64 * (m : Int) ≤ (xs.length : Int) := by omega
  have hT : (64 * (m : Int)).toNat = 64 * m := by omega
  have HM : Hid (m = xs.length / 64) := hm
  clear hm
  have HX : Hid (Bts xs) := hx
  clear hx
  obtain ⟨g1, hg1⟩ : ∃ g, g = stateFrom hS (fun i => (xs.take (64 * m)).getD i 0) m := ⟨_, rfl⟩
  have H1 : Hid (∀ wx, Calls Try.prog 99 #[.agg (arr 8 fun i => .int .u32 (hS i)), .string (strOfNums (xs.take (64 * m)))] wx fun e w' => e = .returned (.agg (arr 8 fun i => .int .u32 (g1 i))) ∧ Old wx w') := fun wx => by
    rw [hg1]
    exact dpieces_any hS (xs.take (64 * m)) m wx (fun x hx => HX.out x (List.mem_of_mem_take hx)) (by rw [List.length_take]; omega) (by omega)
  have HG : Hid (g1 = stateFrom hS (fun i => (xs.take (64 * m)).getD i 0) m) := hg1
  clear hg1
  have hcut : (strOfNums xs).extract 0 (64 * m) = strOfNums (xs.take (64 * m)) := str_take' xs (64 * m)
  have hst : ∀ (wx : World) (c : Array Value), c.size = 8 → (storeCells ⟨wx.heap.size, 0, none⟩ (arr 8 fun i => .int .u32 (g1 i)).toList 0).run Try.prog (wx.alloc (.cells c 125)) = .ok () (wx.alloc (.cells (arr 8 fun i => .int .u32 (g1 i)) 125)) := fun wx c hc => run_storeCells_new wx _ c _ (by rw [arr_size]; exact info8) (by rw [arr_size]; exact hc) (arr_one g1)
  go_enter Try.func89, Try.ntmps89
  go_upto_region 2 with fail
  go_cut [4] (fun pv wx => ∃ b, pv = .pointer (some ⟨b, 0, none⟩) ∧ Hid (Old w wx ∧ w.heap.size ≤ b ∧ wx.rowIs b 125 8 (fun i => .int .u32 (g1 i))))
  case first =>
    go_region_with (first
      | (go_at_call 100; refine (dfirst_any _).mono ?_; rintro e w1 ⟨rfl, ho1⟩)
      | (go_at_call 99; refine (H1.out _).mono ?_; rintro e w2 ⟨rfl, ho2⟩; (try have hs1 := store_after (P := Try.prog) (g := g1) ho2); (try have hs2 : (storeCells ⟨w.heap.size, 0, none⟩ (arr 8 fun i => .int .u32 (g1 i)).toList 0).run Try.prog w2 = .ok () (w2.setRow w.heap.size (arr 8 fun i => .int .u32 (g1 i))) := store_after (wx := w.drew) (ho1.trans ho2))))
    all_goals
      go_wp2_with fail
      go_meet
      case rel => first
        | exact sum_last (((Old.refl _).drew.trans ho1).trans ho2)
        | exact sum_early ((Old.refl _).drew.trans ho1) ho2
        | exact sum_early (wx := w.drew) (Old.refl _).drew (ho1.trans ho2)
  obtain ⟨b, rfl, HB⟩ := hcut
  clear hst hcut
  obtain ⟨g2, hg2⟩ : ∃ g, g = state (fun i => (padL xs).getD i 0) (pieces xs.length) := ⟨_, rfl⟩
  have H2 : Hid (∀ wx, Calls Try.prog 99 #[.agg (arr 8 fun i => .int .u32 (g1 i)), .string (strOfNums (xs.drop (64 * m) ++ endL xs.length))] wx fun e w' => e = .returned (.agg (arr 8 fun i => .int .u32 (g2 i))) ∧ Old wx w') := fun wx => by
    have hp := pad_pieces xs.length
    have hm := HM.out
    have lz := zeros_lt xs.length
    rw [hg2, ← sum_parts xs m (pieces xs.length - m) (by omega) (by omega), ← HG.out]
    refine dpieces_any g1 (xs.drop (64 * m) ++ endL xs.length) (pieces xs.length - m) wx (bts_app (fun x hx => HX.out x (List.mem_of_mem_drop hx)) ?_) ?_ (by omega)
    · exact endL_bd _
    · rw [List.length_append, List.length_drop, endL_len]
      omega
  have HS : Hid (sumL xs = outL g2 8 ∧ ∀ i, 0 ≤ g2 i ∧ g2 i ≤ 4294967295) := by
    rw [hg2]
    exact ⟨rfl, state_bd _ _⟩
  clear hg2
  have hrest : (strOfNums xs).extract (64 * m) xs.length = strOfNums (xs.drop (64 * m)) := str_drop xs (64 * m) _ rfl
  have ld : (xs.drop (64 * m)).length = xs.length - 64 * m := List.length_drop
  have le := endL_len xs.length
  have lz := zeros_lt xs.length
  have y0 := HB.out.2.2.cell (i := 0) (by omega)
  have y1 := HB.out.2.2.cell (i := 1) (by omega)
  have y2 := HB.out.2.2.cell (i := 2) (by omega)
  have y3 := HB.out.2.2.cell (i := 3) (by omega)
  have y4 := HB.out.2.2.cell (i := 4) (by omega)
  have y5 := HB.out.2.2.cell (i := 5) (by omega)
  have y6 := HB.out.2.2.cell (i := 6) (by omega)
  have y7 := HB.out.2.2.cell (i := 7) (by omega)
  have hw : IntKind.u64.wrap (xs.length : Int) = (xs.length : Int) := by rw [IntKind.wrap_u64]; omega
  go_upto_region 3 with fail
  go_cut [4] (fun pv wx => pv = .pointer (some ⟨b, 0, none⟩) ∧ Hid (Old w wx ∧ wx.rowIs b 125 8 (fun i => .int .u32 (g2 i))))
  case first =>
    go_region_with (first
      | (go_at_call 101; refine (dending_any xs.length _ hl).mono ?_; rintro e w1 ⟨rfl, ho1⟩; have z0 := ho1.cellOf y0; have z1 := ho1.cellOf y1; have z2 := ho1.cellOf y2; have z3 := ho1.cellOf y3; have z4 := ho1.cellOf y4; have z5 := ho1.cellOf y5; have z6 := ho1.cellOf y6; have z7 := ho1.cellOf y7)
      | (go_at_call 99; refine (H2.out _).mono ?_; rintro e w2 ⟨rfl, ho2⟩; have hs1 := storeCells_arr (P := Try.prog) (k := .u32) (g := g2) ((ho1.trans ho2).row HB.out.2.2)))
    all_goals
      go_wp2_with fail
      go_meet
      case rel => exact ⟨rfl, (HB.out.1.drew.trans (ho1.trans ho2)).setRow HB.out.2.1 _, row_set ((ho1.trans ho2).row HB.out.2.2) _⟩
  obtain ⟨rfl, HC⟩ := hcut
  clear y0 y1 y2 y3 y4 y5 y6 y7 hrest ld le lz hw hW hW0 hW1 hT
  obtain ⟨W, hW⟩ : ∃ x, x = wc := ⟨_, rfl⟩
  subst hW
  have HN : Hid (b < W.heap.size) := HC.out.2.lt
  have HL : Hid (W.heap.size ≤ (W.alloc (.cells #[.pointer none, .slice none 0 0] 116)).heap.size ∧ Old W (W.alloc (.cells #[.pointer none, .slice none 0 0] 116)) ∧ Bld W.heap.size W.heap.size [] (W.alloc (.cells #[.pointer none, .slice none 0 0] 116)) ∧ (W.alloc (.cells #[.pointer none, .slice none 0 0] 116)).rowIs b 125 8 (fun i => .int .u32 (g2 i))) := ⟨by simp, (Old.refl _).alloc _, Bld.new W, HC.out.2.alloc _⟩
  go_upto_region 5 with fail
  refine wp_region_lit ?_
  refine wpList_load_row rfl 125 (.tmp 4) rfl b rfl _ _ (0, 0) _ (row_arr HL.out.2.2.2) Try.underlying125 rfl (by rw [arr_size]; exact info8) ?_
  go_wp2_with fail
  go_loopw [30] (fun iv wx => ∃ i : Nat, iv = .int .i64 (i : Int) ∧ i ≤ 8 ∧ Hid (Old W wx ∧ Bld W.heap.size W.heap.size (outL g2 i) wx)) (fun iv _ => 8 - (intOf iv).toNat)
  case atStart => exact ⟨0, rfl, Nat.zero_le _, HL.out.2.1, HL.out.2.2.1⟩
  case round =>
    obtain ⟨i, rfl, hi, HR⟩ := hrel
    by_cases hlt : i < 8
    · have ha := fun wx => index_arr g2 i wx hlt
      obtain ⟨e0, e1⟩ := HS.out.2 i
      have i8 : (i : Int) < 8 := by omega
      have i0 : (0 : Int) ≤ (i : Int) := by omega
      have z1 := outL_len g2 i
      have z2 := bytesL_len (g2 i) 4
      go_wp2_with (first
        | (go_at_call 98; refine (dbytes_any _ 4 _ (by omega) (by omega)).mono ?_; rintro e w1 ⟨rfl, ho1⟩)
        | (go_at_call 87; refine (bld_write W.heap.size W.heap.size (outL g2 i) (bytesL (g2 i) 4) _ (HR.out.2.old ho1) (by omega) (Nat.le_trans HR.out.1.size ho1.size)).mono ?_; rintro e w2 ⟨rfl, hb2, hbel⟩))
      go_roundw
      case rel => exact ⟨i + 1, by go_num, by omega, (HR.out.1.trans ho1).thenBelow (Nat.le_refl _) hbel, hb2⟩
      case measure => simp [intOf]; omega
    · have he : i = 8 := by omega
      subst he
      go_wp2_with (go_at_call 90; refine (bld_string W.heap.size W.heap.size (outL g2 8) _ HR.out.2 HR.out.1.size).mono ?_; rintro e w1 ⟨rfl, hbel⟩)
      go_ret
      exact ⟨by rw [HS.out.1]; rfl, HC.out.1.trans (HR.out.1.thenBelow (Nat.le_refl _) hbel)⟩

end Go.Proofs.Ytokhpppealdfmaf
