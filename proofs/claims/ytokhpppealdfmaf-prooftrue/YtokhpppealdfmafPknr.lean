/-
  The document's Knows (layer 7).
-/
import Derived.Test.YtokhpppealdfmafPkn
namespace Go.Proofs.Ytokhpppealdfmaf
open Go.RowKit

theorem full_ones (w : World) (G : Int) (i : Nat) (_hi : i < 3) : Full ((w.alloc (.cells #[.int .u64 1, .int .u64 1, .int .u64 1] 22)).setCell ⟨w.heap.size, i, none⟩ (.int .u64 G)) w.heap.size 3 (rowAt G i) := by
  have h : Full (w.alloc (.cells #[.int .u64 1, .int .u64 1, .int .u64 1] 22)) w.heap.size 3 (fun _ => 1) := heap_alloc_last w _
  exact h.set i G

set_option linter.unusedSimpArgs false in
set_option maxRecDepth 100000 in
set_option maxHeartbeats 8000000 in
theorem rknows_any (P Q G H : Int) (a : Option Addr) (n cap : Nat) (u0 v0 u1 v1 u2 v2 : Int) (w : World) :
    Calls Try.prog 33 #[gv P Q G H a n cap, bv u0 v0 u1 v1 u2 v2] w (GivesC w 3 (tri7 u0 u1 u2) 3 (fun _ => 3) (fun j => rowAt G j)) := by
  have HZ := lain3 w (gc P Q G H a n cap) (bc u0 v0 u1 v1 u2 v2) (cc none 0 0 none 0 0) 25 60 34
  have hs0 : w.heap.size + 1 + 1 < (((w.alloc (.cells (gc P Q G H a n cap) 25)).alloc (.cells (bc u0 v0 u1 v1 u2 v2) 60)).alloc (.cells (cc none 0 0 none 0 0) 34)).heap.size := by simp
  obtain ⟨i0, hi0, hz0, hz1, hz2⟩ := info_parts u64info
  obtain ⟨j0, hj0, hy0, hy1, hy2⟩ := info_parts slinfo
  go_enter Try.func33, Try.ntmps33
  go_upto_region 1 with fail
  generalize ((w.alloc (.cells (gc P Q G H a n cap) 25)).alloc (.cells (bc u0 v0 u1 v1 u2 v2) 60)).alloc (.cells (cc none 0 0 none 0 0) 34) = W at *
  have HW0 : Hid (Old w W) := HZ.old
  have HK0 := Kp.new W (.cells #[.slice none 0 0, .slice none 0 0] 34) G (tri7 u0 u1 u2)
  have HR0 : Hid ((W.alloc (.cells #[.slice none 0 0, .slice none 0 0] 34)).heap[W.heap.size]? = some (.cells #[.slice none 0 0, .slice none 0 0] 34 (0, 0))) := heap_alloc_last W _
  have HT : Hid (∀ w', Old W w' → w'.cell? ⟨w.heap.size, 2, none⟩ = some (.int .u64 G) ∧ w'.cell? ⟨w.heap.size + 1, 0, none⟩ = some (.int .u64 u0) ∧ w'.cell? ⟨w.heap.size + 1, 1, none⟩ = some (.int .u64 v0) ∧ w'.cell? ⟨w.heap.size + 1, 2, none⟩ = some (.int .u64 u1) ∧ w'.cell? ⟨w.heap.size + 1, 3, none⟩ = some (.int .u64 v1) ∧ w'.cell? ⟨w.heap.size + 1, 4, none⟩ = some (.int .u64 u2) ∧ w'.cell? ⟨w.heap.size + 1, 5, none⟩ = some (.int .u64 v2)) := fun w' ho => by
    have h := HZ.then ho
    exact ⟨h.cell 0 2 (by simp) rfl, h.cell 1 0 (by simp) rfl, h.cell 1 1 (by simp) rfl, h.cell 1 2 (by simp) rfl, h.cell 1 3 (by simp) rfl, h.cell 1 4 (by simp) rfl, h.cell 1 5 (by simp) rfl⟩
  have HRS : Hid (∀ w', Old W w' → w'.heap[w.heap.size + 1 + 1]? = some (.cells #[.slice none 0 0, .slice none 0 0] 34 (0, 0))) := fun w' ho => (HZ.then ho).row 2 (by simp)
  clear HZ
  go_upto_region 2 with fail
  generalize W.alloc (.cells #[.slice none 0 0, .slice none 0 0] 34) = W3 at *
  obtain ⟨g2, x0, x1, x2, x3, x4, x5⟩ := HT.out _ HK0.old
  go_upto_region 3 with fail
  clear g2 x0 x1 x2 x3 x4 x5
  go_loopw [6] (fun iv wx => ∃ i : Nat, ∃ v u : Value, ∃ bk : Nat → Nat, iv = .int .i64 (i : Int) ∧ i ≤ 3 ∧ Hid (Kp W G (tri7 u0 u1 u2) i i v u bk wx) ∧ Hid (wx.heap[W.heap.size]? = some (.cells #[v, u] 34 (0, 0)))) (fun iv _ => 3 - (intOf iv).toNat)
  case atStart => exact ⟨0, _, _, _, rfl, Nat.zero_le _, HK0, HR0⟩
  case round =>
    obtain ⟨i, v, u, bk, rfl, hi1, HK, HR⟩ := hrel
    by_cases hlt : i < 3
    · have i1 : (i : Int) < 3 := by omega
      have i2 : (0 : Int) ≤ (i : Int) := by omega
      have hbl : W.heap.size < wr.heap.size := HK.out.big
      obtain ⟨g2, x0, x1, x2, x3, x4, x5⟩ := HT.out _ HK.out.old
      have g3 := ((Old.refl wr).alloc (.cells #[.int .u64 1, .int .u64 1, .int .u64 1] 22)).cellOf g2
      clear x0 x1 x2 x3 x4 x5
      go_upto_region 6 with fail
      have HF0 : Hid (Full ((wr.alloc (.cells #[.int .u64 1, .int .u64 1, .int .u64 1] 22)).setCell ⟨wr.heap.size, i, none⟩ (.int .u64 G)) wr.heap.size 3 (rowAt G i)) := full_ones wr G i hlt
      have HO1 : Hid (Old wr ((wr.alloc (.cells #[.int .u64 1, .int .u64 1, .int .u64 1] 22)).setCell ⟨wr.heap.size, i, none⟩ (.int .u64 G))) := ((Old.refl _).alloc _).setCell (p := ⟨wr.heap.size, i, none⟩) (Nat.le_refl _) _
      have hful : Full (wr.alloc (.cells #[.int .u64 1, .int .u64 1, .int .u64 1] 22)) wr.heap.size 3 (fun _ => 1) := heap_alloc_last wr _
      have y0 := hful.cell i hlt
      have z0 := hful.free i
      clear hful
      generalize wr.alloc (.cells #[.int .u64 1, .int .u64 1, .int .u64 1] 22) = wa at *
      go_upto_region 7 with fail
      clear y0 z0 g3 g2
      generalize wa.setCell ⟨wr.heap.size, i, none⟩ (.int .u64 G) = w1 at *
      have HK1 : Hid (Kp W G (tri7 u0 u1 u2) i i v u bk w1) := HK.out.old' HO1.out
      have HR1 : Hid (w1.heap[W.heap.size]? = some (.cells #[v, u] 34 (0, 0))) := (HO1.out.block _ hbl).trans HR.out
      have hnv : Hid (v.ownBlock ≠ some wr.heap.size) := own_new_ne HK.out.nums (Nat.le_refl _)
      have hnu : Hid (u.ownBlock ≠ some wr.heap.size) := own_new_ne HK.out.own (Nat.le_refl _)
      have HUi : Hid (∀ w', Old W w' → w'.cell? ⟨w.heap.size + 1, i * 2, none⟩ = some (.int .u64 (tri7 u0 u1 u2 i))) := fun w' ho => by
        obtain ⟨_, x0, x1, x2, x3, x4, x5⟩ := HT.out _ ho
        match i, hlt with
        | 0, _ => exact x0
        | 1, _ => exact x2
        | 2, _ => exact x4
      clear HK HR
      refine wp_region_held_drew (S := (fun w' => w'.cell? ⟨w.heap.size + 1, i * 2, none⟩ = some (.int .u64 (tri7 u0 u1 u2 i)))) (by kernel_rfl) (HUi.out _ HK1.out.old.drew) (fun hHeld => ?_)
      refine wpAnyH_take (i := 0) (v := ?_) rfl (by kernel_rfl) (by kernel_rfl) (by kernel_rfl) (fun _ _ _ h => h) (Or.inl ⟨by rfl, ?_⟩) (by assumption) ?_
      rotate_left
      · intro wz hSw
        try dsimp only at hSw
        go_simp
        try rfl
      simp only [Act.put, List.getElem_toArray, List.getElem_cons_zero, List.getElem_cons_succ, List.setIfInBounds_toArray, List.set_cons_zero, List.set_cons_succ]
      refine wpAnyH_take (i := 2) (v := ?_) rfl (by kernel_rfl) (by kernel_rfl) (by kernel_rfl) (fun _ _ _ h => h) (Or.inl ⟨by rfl, ?_⟩) (by assumption) ?_
      rotate_left
      · intro wz hSw
        try dsimp only at hSw
        go_simp
        try rfl
      simp only [Act.put, List.getElem_toArray, List.getElem_cons_zero, List.getElem_cons_succ, List.setIfInBounds_toArray, List.set_cons_zero, List.set_cons_succ]
      refine wpAnyH_take (i := 3) (v := ?_) rfl (by kernel_rfl) (by kernel_rfl) (by kernel_rfl) (fun _ _ _ h => h) (Or.inl ⟨by rfl, ?_⟩) (by assumption) ?_
      rotate_left
      · intro wz hSw
        try dsimp only at hSw
        go_simp
        try rfl
      simp only [Act.put, List.getElem_toArray, List.getElem_cons_zero, List.getElem_cons_succ, List.setIfInBounds_toArray, List.set_cons_zero, List.set_cons_succ]
      refine wpAnyH_take (i := 4) (v := ?_) rfl (by kernel_rfl) (by kernel_rfl) (by kernel_rfl) (fun _ _ _ h => h) (Or.inl ⟨by rfl, ?_⟩) (by assumption) ?_
      rotate_left
      · intro wz hSw
        try dsimp only at hSw
        go_simp
        try rfl
      simp only [Act.put, List.getElem_toArray, List.getElem_cons_zero, List.getElem_cons_succ, List.setIfInBounds_toArray, List.set_cons_zero, List.set_cons_succ]
      refine wpAnyH_take (i := 5) (v := ?_) rfl (by kernel_rfl) (by kernel_rfl) (by kernel_rfl) (fun _ _ _ h => h) (Or.inl ⟨by rfl, ?_⟩) (by assumption) ?_
      rotate_left
      · intro wz hSw
        try dsimp only at hSw
        go_simp
        try rfl
      simp only [Act.put, List.getElem_toArray, List.getElem_cons_zero, List.getElem_cons_succ, List.setIfInBounds_toArray, List.set_cons_zero, List.set_cons_succ]
      refine wpAnyH_ready (rs := [1, 6]) (by kernel_rfl) (by simp) ?_
      refine AllReadyH.cons rfl (fun K hK => ?_) (AllReadyH.cons rfl (fun K hK => ?_) AllReadyH.nil)
      · have c0 : w1.drew.cell? ⟨W.heap.size, 0, none⟩ = some v := cell_of_row _ _ 0 _ _ (0, 0) HR1.out
        rw [if_pos (by rfl)]
        go_simp
        refine hK.out _ _ (HUi.out _ HK1.out.old.drew) (fun hHeld => ?_)
        clear hK K
        clear c0
        try simp only [Act.put, List.getElem_toArray, List.getElem_cons_zero, List.getElem_cons_succ, List.setIfInBounds_toArray, List.set_cons_zero, List.set_cons_succ]
        refine wpAnyH_ready (rs := [6]) (by kernel_rfl) (by simp) ?_
        refine AllReadyH.cons rfl (fun K hK => ?_) AllReadyH.nil
        rw [if_pos (by rfl)]
        go_simp
        refine hK.out _ _ (by first | exact HUi.out _ (HK1.out.old.drew.alloc _) | exact HUi.out _ (HK1.out.old.alloc _).drew) (fun hHeld => ?_)
        clear hK K
        try simp only [Act.put, List.getElem_toArray, List.getElem_cons_zero, List.getElem_cons_succ, List.setIfInBounds_toArray, List.set_cons_zero, List.set_cons_succ]
        refine wpAnyH_ready (rs := [7]) (by kernel_rfl) (by simp) ?_
        refine AllReadyH.cons rfl (fun K hK => ?_) AllReadyH.nil
        have hs1 : W.heap.size + 1 ≤ w1.heap.size := HK1.out.big
        refine step_append_lies _ (by rfl) (.tmp 20) (.tmp 25) 27 (by rfl) (W.heap.size + 1) 22 i0 (.int .u64 0) 1 8 Try.underlying27 hi0 hz0 hz1 hz2 rfl (by decide) v i _ (by rfl) (World.ownsRow.alloc (HK1.out.old' (Old.refl w1).drew).nums _) ⟨w1.heap.size, 0, none⟩ 1 1 [.int .u64 (tri7 u0 u1 u2 i)] (by rfl) rfl (cell_one_new _ _ _) (by intro x hx; simp at hx; subst hx; rfl) (by decide) (by unfold maxLen; omega) (by omega) (by simp; omega) _ rfl ?_
        intro g5 cap5 w5 hown5 hgrow5 hat5 _
        have HK5 : Hid (Kp W G (tri7 u0 u1 u2) (i + 1) i (.slice (some ⟨g5, 0, none⟩) (i + 1) cap5) u bk w5) := ((HK1.out.old' (Old.refl w1).drew).old' ((Old.refl _).alloc _)).tgt hown5 hgrow5 (by simpa using hat5)
        have HF5 : Hid (Full w5 wr.heap.size 3 (rowAt G i)) := (HF0.out.old ((Old.refl w1).drew.alloc _)).grown hgrow5 hnv.out
        have HR5 : Hid (w5.heap[W.heap.size]? = some (.cells #[v, u] 34 (0, 0))) := by
          have hlt1 : W.heap.size < w1.heap.size := by omega
          exact (hgrow5.block W.heap.size (by simp; omega) (fun e => by have := (World.ownsRow.lt HK1.out.nums _ e.symm).1; omega)).trans ((Below.heap_alloc w1 _ _ hlt1).trans HR1.out)
        have hn5 : Hid (Value.ownBlock (.slice (some ⟨g5, 0, none⟩) (i + 1) cap5) ≠ some wr.heap.size) := fun he => by
          have he' : g5 = wr.heap.size := by simpa [Value.ownBlock] using he
          rcases hat5 with h | h
          · exact hnv.out (by rw [h, he'])
          · have := HF0.out.lt; simp at h; omega
        clear hown5 hgrow5 hat5
        refine hK.out _ _ (HUi.out _ HK5.out.old) (fun hHeld => ?_)
        clear hK K
        try simp only [Act.put, List.getElem_toArray, List.getElem_cons_zero, List.getElem_cons_succ, List.setIfInBounds_toArray, List.set_cons_zero, List.set_cons_succ]
        refine wpAnyH_take (i := 8) (v := ?_) rfl (by kernel_rfl) (by kernel_rfl) (by kernel_rfl) (fun _ _ _ h => h) (Or.inl ⟨by rfl, ?_⟩) (by assumption) ?_
        rotate_left
        · intro wz hSw
          try dsimp only at hSw
          go_simp
          try rfl
        simp only [Act.put, List.getElem_toArray, List.getElem_cons_zero, List.getElem_cons_succ, List.setIfInBounds_toArray, List.set_cons_zero, List.set_cons_succ]
        refine wpAnyH_ready (rs := [9]) (by kernel_rfl) (by simp) ?_
        refine AllReadyH.cons rfl (fun K hK => ?_) AllReadyH.nil
        have q0 : w5.cell? ⟨W.heap.size, 0, none⟩ = some v := cell_of_row _ _ 0 _ _ (0, 0) HR5.out
        have f0 : w5.frozen? ⟨W.heap.size, 0, none⟩ = false := row_frozen HR5.out 0
        rw [if_pos (by rfl)]
        go_simp
        refine hK.out _ _ (HUi.out _ (HK5.out.set 0 _).old) (fun hHeld => ?_)
        clear hK K
        try simp only [Act.put, List.getElem_toArray, List.getElem_cons_zero, List.getElem_cons_succ, List.setIfInBounds_toArray, List.set_cons_zero, List.set_cons_succ]
        refine wpAnyH_done (by kernel_rfl) ?_ _
        have HK6 : Hid (Kp W G (tri7 u0 u1 u2) (i + 1) i (.slice (some ⟨g5, 0, none⟩) (i + 1) cap5) u bk (w5.setCell ⟨W.heap.size, 0, none⟩ (.slice (some ⟨g5, 0, none⟩) (i + 1) cap5))) := HK5.out.set 0 _
        have HF6 : Hid (Full (w5.setCell ⟨W.heap.size, 0, none⟩ (.slice (some ⟨g5, 0, none⟩) (i + 1) cap5)) wr.heap.size 3 (rowAt G i)) := HF5.out.other (by show wr.heap.size ≠ W.heap.size; omega) _
        have HR6 : Hid ((w5.setCell ⟨W.heap.size, 0, none⟩ (.slice (some ⟨g5, 0, none⟩) (i + 1) cap5)).heap[W.heap.size]? = some (.cells #[.slice (some ⟨g5, 0, none⟩) (i + 1) cap5, u] 34 (0, 0))) := by have := set_row HR5.out 0 (.slice (some ⟨g5, 0, none⟩) (i + 1) cap5); unfold Hid; simpa using this
        clear q0 f0 HK5 HF5 HR5
        generalize w5.setCell ⟨W.heap.size, 0, none⟩ (.slice (some ⟨g5, 0, none⟩) (i + 1) cap5) = w6 at *
        have c1 : w6.cell? ⟨W.heap.size, 1, none⟩ = some u := cell_of_row _ _ 1 _ _ (0, 0) HR6.out
        have hs6 : W.heap.size + 1 ≤ w6.heap.size := HK6.out.big
        go_wp2_with (at_builtin; refine wpList_append_lies _ rfl _ _ 26 rfl (W.heap.size + 1) 27 j0 (.slice none 0 0) 1 24 Try.underlying26 hj0 hy0 hy1 hy2 rfl (by decide) _ _ _ rfl (World.ownsRow.alloc HK6.out.own _) ⟨w6.heap.size, 0, none⟩ 1 1 [.slice (some ⟨wr.heap.size, 0, none⟩) 3 3] rfl rfl ?c1 ?c2 (by decide) ?c3 ?c4 ?c5 _ rfl ?_)
        case c1 => exact cell_one_new _ _ _
        case c2 => intro x hx; simp at hx; subst hx; rfl
        case c3 => unfold maxLen; omega
        case c4 => omega
        case c5 => simp; omega
        intro g8 cap8 w8 hown8 hgrow8 hat8 _
        have HK8 : Hid (Kp W G (tri7 u0 u1 u2) (i + 1) (i + 1) (.slice (some ⟨g5, 0, none⟩) (i + 1) cap5) (.slice (some ⟨g8, 0, none⟩) (i + 1) cap8) (fun j => if j = i then wr.heap.size else bk j) w8) := (HK6.out.old' ((Old.refl _).alloc _)).bas hbl (HF6.out.old ((Old.refl _).alloc _)) hn5.out hnu.out hown8 hgrow8 (by simpa using hat8)
        have HR8 : Hid (w8.heap[W.heap.size]? = some (.cells #[.slice (some ⟨g5, 0, none⟩) (i + 1) cap5, u] 34 (0, 0))) := by
          have hlt1 : W.heap.size < w6.heap.size := by omega
          unfold Hid
          rw [hgrow8.block W.heap.size (by simp; omega) (fun e => by have := (World.ownsRow.lt HK6.out.own _ e.symm).1; omega), Below.heap_alloc _ _ _ hlt1]
          exact HR6.out
        clear hown8 hgrow8 hat8 c1 hs6
        have q1 : w8.cell? ⟨W.heap.size, 1, none⟩ = some u := cell_of_row _ _ 1 _ _ (0, 0) HR8.out
        have f1 : w8.frozen? ⟨W.heap.size, 1, none⟩ = false := row_frozen HR8.out 1
        have HK9 : Hid (Kp W G (tri7 u0 u1 u2) (i + 1) (i + 1) (.slice (some ⟨g5, 0, none⟩) (i + 1) cap5) (.slice (some ⟨g8, 0, none⟩) (i + 1) cap8) (fun j => if j = i then wr.heap.size else bk j) (w8.setCell ⟨W.heap.size, 1, none⟩ (.slice (some ⟨g8, 0, none⟩) (i + 1) cap8))) := HK8.out.set 1 _
        have HR9 : Hid ((w8.setCell ⟨W.heap.size, 1, none⟩ (.slice (some ⟨g8, 0, none⟩) (i + 1) cap8)).heap[W.heap.size]? = some (.cells #[.slice (some ⟨g5, 0, none⟩) (i + 1) cap5, .slice (some ⟨g8, 0, none⟩) (i + 1) cap8] 34 (0, 0))) := by have := set_row HR8.out 1 (.slice (some ⟨g8, 0, none⟩) (i + 1) cap8); unfold Hid; simpa using this
        go_wp2_with fail
        go_roundw
        case rel => exact ⟨i + 1, _, _, _, by first | exact idx_next i | exact idx_up i, by omega, HK9, HR9⟩
        case measure => simp [intOf]; omega
      · rw [if_pos (by rfl)]
        go_simp
        refine hK.out _ _ (by first | exact HUi.out _ (HK1.out.old.drew.alloc _) | exact HUi.out _ (HK1.out.old.alloc _).drew) (fun hHeld => ?_)
        clear hK K
        try simp only [Act.put, List.getElem_toArray, List.getElem_cons_zero, List.getElem_cons_succ, List.setIfInBounds_toArray, List.set_cons_zero, List.set_cons_succ]
        refine wpAnyH_ready (rs := [1]) (by kernel_rfl) (by simp) ?_
        refine AllReadyH.cons rfl (fun K hK => ?_) AllReadyH.nil
        have c0 : (w1.alloc (.cells #[.int .u64 (tri7 u0 u1 u2 i)] 22)).cell? ⟨W.heap.size, 0, none⟩ = some v := ((Old.refl w1).alloc _).cellOf (cell_of_row _ _ 0 _ _ (0, 0) HR1.out)
        rw [if_pos (by rfl)]
        go_simp
        refine hK.out _ _ (by first | exact HUi.out _ (HK1.out.old.drew.alloc _) | exact HUi.out _ (HK1.out.old.alloc _).drew) (fun hHeld => ?_)
        clear hK K
        clear c0
        try simp only [Act.put, List.getElem_toArray, List.getElem_cons_zero, List.getElem_cons_succ, List.setIfInBounds_toArray, List.set_cons_zero, List.set_cons_succ]
        refine wpAnyH_ready (rs := [7]) (by kernel_rfl) (by simp) ?_
        refine AllReadyH.cons rfl (fun K hK => ?_) AllReadyH.nil
        have hs1 : W.heap.size + 1 ≤ w1.heap.size := HK1.out.big
        refine step_append_lies _ (by rfl) (.tmp 20) (.tmp 25) 27 (by rfl) (W.heap.size + 1) 22 i0 (.int .u64 0) 1 8 Try.underlying27 hi0 hz0 hz1 hz2 rfl (by decide) v i _ (by rfl) (World.ownsRow.alloc (HK1.out.old' (Old.refl w1).drew).nums _) ⟨w1.heap.size, 0, none⟩ 1 1 [.int .u64 (tri7 u0 u1 u2 i)] (by rfl) rfl (cell_one_new _ _ _) (by intro x hx; simp at hx; subst hx; rfl) (by decide) (by unfold maxLen; omega) (by omega) (by simp; omega) _ rfl ?_
        intro g5 cap5 w5 hown5 hgrow5 hat5 _
        have HK5 : Hid (Kp W G (tri7 u0 u1 u2) (i + 1) i (.slice (some ⟨g5, 0, none⟩) (i + 1) cap5) u bk w5) := ((HK1.out.old' (Old.refl w1).drew).old' ((Old.refl _).alloc _)).tgt hown5 hgrow5 (by simpa using hat5)
        have HF5 : Hid (Full w5 wr.heap.size 3 (rowAt G i)) := (HF0.out.old ((Old.refl w1).drew.alloc _)).grown hgrow5 hnv.out
        have HR5 : Hid (w5.heap[W.heap.size]? = some (.cells #[v, u] 34 (0, 0))) := by
          have hlt1 : W.heap.size < w1.heap.size := by omega
          exact (hgrow5.block W.heap.size (by simp; omega) (fun e => by have := (World.ownsRow.lt HK1.out.nums _ e.symm).1; omega)).trans ((Below.heap_alloc w1 _ _ hlt1).trans HR1.out)
        have hn5 : Hid (Value.ownBlock (.slice (some ⟨g5, 0, none⟩) (i + 1) cap5) ≠ some wr.heap.size) := fun he => by
          have he' : g5 = wr.heap.size := by simpa [Value.ownBlock] using he
          rcases hat5 with h | h
          · exact hnv.out (by rw [h, he'])
          · have := HF0.out.lt; simp at h; omega
        clear hown5 hgrow5 hat5
        refine hK.out _ _ (HUi.out _ HK5.out.old) (fun hHeld => ?_)
        clear hK K
        try simp only [Act.put, List.getElem_toArray, List.getElem_cons_zero, List.getElem_cons_succ, List.setIfInBounds_toArray, List.set_cons_zero, List.set_cons_succ]
        refine wpAnyH_take (i := 8) (v := ?_) rfl (by kernel_rfl) (by kernel_rfl) (by kernel_rfl) (fun _ _ _ h => h) (Or.inl ⟨by rfl, ?_⟩) (by assumption) ?_
        rotate_left
        · intro wz hSw
          try dsimp only at hSw
          go_simp
          try rfl
        simp only [Act.put, List.getElem_toArray, List.getElem_cons_zero, List.getElem_cons_succ, List.setIfInBounds_toArray, List.set_cons_zero, List.set_cons_succ]
        refine wpAnyH_ready (rs := [9]) (by kernel_rfl) (by simp) ?_
        refine AllReadyH.cons rfl (fun K hK => ?_) AllReadyH.nil
        have q0 : w5.cell? ⟨W.heap.size, 0, none⟩ = some v := cell_of_row _ _ 0 _ _ (0, 0) HR5.out
        have f0 : w5.frozen? ⟨W.heap.size, 0, none⟩ = false := row_frozen HR5.out 0
        rw [if_pos (by rfl)]
        go_simp
        refine hK.out _ _ (HUi.out _ (HK5.out.set 0 _).old) (fun hHeld => ?_)
        clear hK K
        try simp only [Act.put, List.getElem_toArray, List.getElem_cons_zero, List.getElem_cons_succ, List.setIfInBounds_toArray, List.set_cons_zero, List.set_cons_succ]
        refine wpAnyH_done (by kernel_rfl) ?_ _
        have HK6 : Hid (Kp W G (tri7 u0 u1 u2) (i + 1) i (.slice (some ⟨g5, 0, none⟩) (i + 1) cap5) u bk (w5.setCell ⟨W.heap.size, 0, none⟩ (.slice (some ⟨g5, 0, none⟩) (i + 1) cap5))) := HK5.out.set 0 _
        have HF6 : Hid (Full (w5.setCell ⟨W.heap.size, 0, none⟩ (.slice (some ⟨g5, 0, none⟩) (i + 1) cap5)) wr.heap.size 3 (rowAt G i)) := HF5.out.other (by show wr.heap.size ≠ W.heap.size; omega) _
        have HR6 : Hid ((w5.setCell ⟨W.heap.size, 0, none⟩ (.slice (some ⟨g5, 0, none⟩) (i + 1) cap5)).heap[W.heap.size]? = some (.cells #[.slice (some ⟨g5, 0, none⟩) (i + 1) cap5, u] 34 (0, 0))) := by have := set_row HR5.out 0 (.slice (some ⟨g5, 0, none⟩) (i + 1) cap5); unfold Hid; simpa using this
        clear q0 f0 HK5 HF5 HR5
        generalize w5.setCell ⟨W.heap.size, 0, none⟩ (.slice (some ⟨g5, 0, none⟩) (i + 1) cap5) = w6 at *
        have c1 : w6.cell? ⟨W.heap.size, 1, none⟩ = some u := cell_of_row _ _ 1 _ _ (0, 0) HR6.out
        have hs6 : W.heap.size + 1 ≤ w6.heap.size := HK6.out.big
        go_wp2_with (at_builtin; refine wpList_append_lies _ rfl _ _ 26 rfl (W.heap.size + 1) 27 j0 (.slice none 0 0) 1 24 Try.underlying26 hj0 hy0 hy1 hy2 rfl (by decide) _ _ _ rfl (World.ownsRow.alloc HK6.out.own _) ⟨w6.heap.size, 0, none⟩ 1 1 [.slice (some ⟨wr.heap.size, 0, none⟩) 3 3] rfl rfl ?c1 ?c2 (by decide) ?c3 ?c4 ?c5 _ rfl ?_)
        case c1 => exact cell_one_new _ _ _
        case c2 => intro x hx; simp at hx; subst hx; rfl
        case c3 => unfold maxLen; omega
        case c4 => omega
        case c5 => simp; omega
        intro g8 cap8 w8 hown8 hgrow8 hat8 _
        have HK8 : Hid (Kp W G (tri7 u0 u1 u2) (i + 1) (i + 1) (.slice (some ⟨g5, 0, none⟩) (i + 1) cap5) (.slice (some ⟨g8, 0, none⟩) (i + 1) cap8) (fun j => if j = i then wr.heap.size else bk j) w8) := (HK6.out.old' ((Old.refl _).alloc _)).bas hbl (HF6.out.old ((Old.refl _).alloc _)) hn5.out hnu.out hown8 hgrow8 (by simpa using hat8)
        have HR8 : Hid (w8.heap[W.heap.size]? = some (.cells #[.slice (some ⟨g5, 0, none⟩) (i + 1) cap5, u] 34 (0, 0))) := by
          have hlt1 : W.heap.size < w6.heap.size := by omega
          unfold Hid
          rw [hgrow8.block W.heap.size (by simp; omega) (fun e => by have := (World.ownsRow.lt HK6.out.own _ e.symm).1; omega), Below.heap_alloc _ _ _ hlt1]
          exact HR6.out
        clear hown8 hgrow8 hat8 c1 hs6
        have q1 : w8.cell? ⟨W.heap.size, 1, none⟩ = some u := cell_of_row _ _ 1 _ _ (0, 0) HR8.out
        have f1 : w8.frozen? ⟨W.heap.size, 1, none⟩ = false := row_frozen HR8.out 1
        have HK9 : Hid (Kp W G (tri7 u0 u1 u2) (i + 1) (i + 1) (.slice (some ⟨g5, 0, none⟩) (i + 1) cap5) (.slice (some ⟨g8, 0, none⟩) (i + 1) cap8) (fun j => if j = i then wr.heap.size else bk j) (w8.setCell ⟨W.heap.size, 1, none⟩ (.slice (some ⟨g8, 0, none⟩) (i + 1) cap8))) := HK8.out.set 1 _
        have HR9 : Hid ((w8.setCell ⟨W.heap.size, 1, none⟩ (.slice (some ⟨g8, 0, none⟩) (i + 1) cap8)).heap[W.heap.size]? = some (.cells #[.slice (some ⟨g5, 0, none⟩) (i + 1) cap5, .slice (some ⟨g8, 0, none⟩) (i + 1) cap8] 34 (0, 0))) := by have := set_row HR8.out 1 (.slice (some ⟨g8, 0, none⟩) (i + 1) cap8); unfold Hid; simpa using this
        go_wp2_with fail
        go_roundw
        case rel => exact ⟨i + 1, _, _, _, by first | exact idx_next i | exact idx_up i, by omega, HK9, HR9⟩
        case measure => simp [intOf]; omega
    · have he : i = 3 := by omega
      subst he
      have c0 : wr.cell? ⟨W.heap.size, 0, none⟩ = some v := cell_of_row _ _ 0 _ _ (0, 0) HR.out
      have c1 : wr.cell? ⟨W.heap.size, 1, none⟩ = some u := cell_of_row _ _ 1 _ _ (0, 0) HR.out
      have HRr := HRS.out _ HK.out.old
      obtain ⟨bt, ct, rfl⟩ := own_slice HK.out.nums
      obtain ⟨bb, cb, rfl⟩ := own_slice HK.out.own
      have q0 : wr.cell? ⟨w.heap.size + 1 + 1, 0, none⟩ = some (.slice none 0 0) := cell_of_row _ _ 0 _ _ (0, 0) HRr
      have q1 : wr.cell? ⟨w.heap.size + 1 + 1, 1, none⟩ = some (.slice none 0 0) := cell_of_row _ _ 1 _ _ (0, 0) HRr
      have f0 : wr.frozen? ⟨w.heap.size + 1 + 1, 0, none⟩ = false := row_frozen HRr 0
      have f1 : wr.frozen? ⟨w.heap.size + 1 + 1, 1, none⟩ = false := row_frozen HRr 1
      have HRh : Hid (wr.heap[w.heap.size + 1 + 1]? = some (.cells #[.slice none 0 0, .slice none 0 0] 34 (0, 0))) := HRr
      clear HRr
      go_wp2_with fail
      exact bodyPost_ret (result5 (b := w.heap.size + 1 + 1) rfl rfl (load_two HRh.out Try.underlying34 info_claim)) rfl (givesC_set (by omega) hs0 (HW0.out.trans HK.out.old) HW0.out.size (HK.out.nums.mono (Nat.le_succ _)) (HK.out.rws.mono (Nat.le_succ _)))

end Go.Proofs.Ytokhpppealdfmaf
