/-
  The program's Knows (layer 7).
-/
import Derived.Test.YtokhpppealdfmafPkp
namespace Go.Proofs.Ytokhpppealdfmaf
open Go.RowKit

theorem own_slice {w : World} {base : Nat} {e : TypeId} {size : Nat} {v : Value} {n : Nat} {xs : List Value} (h : w.ownsRow base e size v n xs) : ∃ b c, v = .slice b n c := by
  rcases h.2 with ⟨rfl, rfl⟩ | ⟨g, cap, cur, rfl, _⟩
  · exact ⟨none, 0, rfl⟩
  · exact ⟨_, cap, rfl⟩

set_option linter.unusedSimpArgs false in
set_option maxRecDepth 100000 in
set_option maxHeartbeats 8000000 in
theorem pknows_any (P Q G H : Int) (a : Option Addr) (n cap : Nat) (u0 v0 u1 v1 u2 v2 : Int) (w : World) :
    Calls Try.prog 32 #[gv P Q G H a n cap, bv u0 v0 u1 v1 u2 v2] w (GivesC w 3 (tri7 u0 u1 u2) 3 (fun _ => 3) (fun j => rowAt G j)) := by
  have HZ := lain3 w (gc P Q G H a n cap) (bc u0 v0 u1 v1 u2 v2) (cc none 0 0 none 0 0) 25 60 34
  have hs0 : w.heap.size + 1 + 1 < (((w.alloc (.cells (gc P Q G H a n cap) 25)).alloc (.cells (bc u0 v0 u1 v1 u2 v2) 60)).alloc (.cells (cc none 0 0 none 0 0) 34)).heap.size := by simp
  have hidx := box_at u0 v0 u1 v1 u2 v2
  obtain ⟨i0, hi0, hz0, hz1, hz2⟩ := info_parts u64info
  obtain ⟨j0, hj0, hy0, hy1, hy2⟩ := info_parts slinfo
  go_enter Try.func32, Try.ntmps32
  go_upto_region 1 with fail
  generalize ((w.alloc (.cells (gc P Q G H a n cap) 25)).alloc (.cells (bc u0 v0 u1 v1 u2 v2) 60)).alloc (.cells (cc none 0 0 none 0 0) 34) = W at *
  have HW0 : Hid (Old w W) := HZ.old
  have HK0 := Kp.new W (.cells #[.slice none 0 0, .slice none 0 0] 34) G (tri7 u0 u1 u2)
  have HR0 : Hid ((W.alloc (.cells #[.slice none 0 0, .slice none 0 0] 34)).heap[W.heap.size]? = some (.cells #[.slice none 0 0, .slice none 0 0] 34 (0, 0))) := heap_alloc_last W _
  have HT : Hid (∀ w', Old W w' → w'.cell? ⟨w.heap.size, 2, none⟩ = some (.int .u64 G) ∧ w'.cell? ⟨w.heap.size + 1, 0, none⟩ = some (.int .u64 u0) ∧ w'.cell? ⟨w.heap.size + 1, 1, none⟩ = some (.int .u64 v0) ∧ w'.cell? ⟨w.heap.size + 1, 2, none⟩ = some (.int .u64 u1) ∧ w'.cell? ⟨w.heap.size + 1, 3, none⟩ = some (.int .u64 v1) ∧ w'.cell? ⟨w.heap.size + 1, 4, none⟩ = some (.int .u64 u2) ∧ w'.cell? ⟨w.heap.size + 1, 5, none⟩ = some (.int .u64 v2)) := fun w' ho => by
    have h := HZ.then ho
    exact ⟨h.cell 0 2 (by simp) rfl, h.cell 1 0 (by simp) rfl, h.cell 1 1 (by simp) rfl, h.cell 1 2 (by simp) rfl, h.cell 1 3 (by simp) rfl, h.cell 1 4 (by simp) rfl, h.cell 1 5 (by simp) rfl⟩
  have HRS : Hid (∀ w', Old W w' → w'.heap[w.heap.size + 1 + 1]? = some (.cells #[.slice none 0 0, .slice none 0 0] 34 (0, 0))) := fun w' ho => (HZ.then ho).row 2 (by simp)
  clear HZ
  go_upto_region 2 with fail
  generalize W.alloc (.cells #[.slice none 0 0, .slice none 0 0] 34) = W3 at *
  obtain ⟨g2, x0, x1, x2, x3, x4, x5⟩ := HT.out _ HK0.old
  go_upto_region 3 with fail
  clear g2 x0 x1 x2 x3 x4 x5
  go_loopw [9] (fun iv wx => ∃ i : Nat, ∃ v u : Value, ∃ bk : Nat → Nat, iv = .int .i64 (i : Int) ∧ i ≤ 3 ∧ Hid (Kp W G (tri7 u0 u1 u2) i i v u bk wx) ∧ Hid (wx.heap[W.heap.size]? = some (.cells #[v, u] 34 (0, 0)))) (fun iv _ => 3 - (intOf iv).toNat)
  case atStart => exact ⟨0, _, _, _, rfl, Nat.zero_le _, HK0, HR0⟩
  case round =>
    obtain ⟨i, v, u, bk, rfl, hi1, HK, HR⟩ := hrel
    by_cases hlt : i < 3
    · have i1 : (i : Int) < 3 := by omega
      have hix := hidx i hlt
      have HRow : Hid (∀ wx, Calls Try.prog 62 #[.int .u64 G, .int .i64 (i : Int)] wx fun e w' => e = .returned (.slice (some ⟨wx.heap.size, 0, none⟩) 3 3) ∧ Old wx w' ∧ Full w' wx.heap.size 3 (rowAt G i)) := fun wx => prow_any G i wx hlt
      clear hidx
      go_upto_region 5 with fail
      generalize tri7 v0 v1 v2 i = y at *
      have HU : Hid (∀ w', Old w' w' → True) := fun _ _ => trivial
      clear HU
      have HO1 : Hid (Old wr (wr.alloc (.cells #[.int .u64 (tri7 u0 u1 u2 i), .int .u64 y] 58))) := (Old.refl _).alloc _
      have p0 : (wr.alloc (.cells #[.int .u64 (tri7 u0 u1 u2 i), .int .u64 y] 58)).cell? ⟨wr.heap.size, 0, none⟩ = some (.int .u64 (tri7 u0 u1 u2 i)) := (World.cell?_alloc_mark wr _ _ (0, 0) 0).trans rfl
      have hbl : W.heap.size < wr.heap.size := HK.out.big
      generalize wr.alloc (.cells #[.int .u64 (tri7 u0 u1 u2 i), .int .u64 y] 58) = w1 at *
      have HK1 : Hid (Kp W G (tri7 u0 u1 u2) i i v u bk w1) := HK.out.old' HO1.out
      have HR1 : Hid (w1.heap[W.heap.size]? = some (.cells #[v, u] 34 (0, 0))) := (HO1.out.block _ hbl).trans HR.out
      clear HK HR
      have c0 : w1.cell? ⟨W.heap.size, 0, none⟩ = some v := cell_of_row _ _ 0 _ _ (0, 0) HR1.out
      have hs1 : W.heap.size + 1 ≤ w1.heap.size := HK1.out.big
      go_wp2_with (at_builtin; refine wpList_append_lies _ rfl _ _ 27 rfl (W.heap.size + 1) 22 i0 (.int .u64 0) 1 8 Try.underlying27 hi0 hz0 hz1 hz2 rfl (by decide) _ _ _ rfl (World.ownsRow.alloc HK1.out.nums _) ⟨w1.heap.size, 0, none⟩ 1 1 [.int .u64 (tri7 u0 u1 u2 i)] rfl rfl ?c1 ?c2 (by decide) ?c3 ?c4 ?c5 _ rfl ?_)
      case c1 => exact cell_one_new _ _ _
      case c2 => intro u hu; simp at hu; subst hu; rfl
      case c3 => unfold maxLen; omega
      case c4 => omega
      case c5 => simp; omega
      intro g5 cap5 w5 hown5 hgrow5 hat5 _
      have HK5 : Hid (Kp W G (tri7 u0 u1 u2) (i + 1) i (.slice (some ⟨g5, 0, none⟩) (i + 1) cap5) u bk w5) := (HK1.out.old' ((Old.refl _).alloc _)).tgt hown5 hgrow5 (by simpa using hat5)
      have HR5 : Hid (w5.heap[W.heap.size]? = some (.cells #[v, u] 34 (0, 0))) := by
        have hlt1 : W.heap.size < w1.heap.size := by omega
        unfold Hid
        rw [hgrow5.block W.heap.size (by simp; omega) (fun e => by have := (World.ownsRow.lt HK1.out.nums _ e.symm).1; omega), Below.heap_alloc _ _ _ hlt1]
        exact HR1.out
      clear hown5 hgrow5 hat5 HK1 HR1 c0 hs1 p0
      have q0 : w5.cell? ⟨W.heap.size, 0, none⟩ = some v := cell_of_row _ _ 0 _ _ (0, 0) HR5.out
      have f0 : w5.frozen? ⟨W.heap.size, 0, none⟩ = false := row_frozen HR5.out 0
      go_upto_region 6 with fail
      have HK6 : Hid (Kp W G (tri7 u0 u1 u2) (i + 1) i (.slice (some ⟨g5, 0, none⟩) (i + 1) cap5) u bk (w5.setCell ⟨W.heap.size, 0, none⟩ (.slice (some ⟨g5, 0, none⟩) (i + 1) cap5))) := HK5.out.set 0 _
      have HR6 : Hid ((w5.setCell ⟨W.heap.size, 0, none⟩ (.slice (some ⟨g5, 0, none⟩) (i + 1) cap5)).heap[W.heap.size]? = some (.cells #[.slice (some ⟨g5, 0, none⟩) (i + 1) cap5, u] 34 (0, 0))) := by have := set_row HR5.out 0 (.slice (some ⟨g5, 0, none⟩) (i + 1) cap5); unfold Hid; simpa using this
      clear HK5 HR5 q0 f0
      generalize w5.setCell ⟨W.heap.size, 0, none⟩ (.slice (some ⟨g5, 0, none⟩) (i + 1) cap5) = w6 at *
      refine wp_region_held_drew (S := (fun w' => w'.cell? ⟨w.heap.size, 2, none⟩ = some (.int .u64 G))) (by kernel_rfl) ((HT.out _ HK6.out.old.drew).1) (fun hHeld => ?_)
      refine wpAnyH_take (i := 0) (v := ?_) rfl (by kernel_rfl) (by kernel_rfl) (by kernel_rfl) (fun _ _ _ h => h) (Or.inl ⟨by rfl, ?_⟩) (by assumption) ?_
      rotate_left
      · intro wz hSw
        try dsimp only at hSw
        go_simp
        try rfl
      simp only [Act.put, List.getElem_toArray, List.getElem_cons_zero, List.getElem_cons_succ, List.setIfInBounds_toArray, List.set_cons_zero, List.set_cons_succ]
      refine wpAnyH_take (i := 2) (v := ?_) rfl (by kernel_rfl) (by kernel_rfl) (by kernel_rfl) (fun _ _ _ h => h) (Or.inl ⟨by rfl, ?_⟩) (by assumption) ?_
      rotate_left
      · intro wz hSw
        try dsimp only at hSw
        go_simp
        try rfl
      simp only [Act.put, List.getElem_toArray, List.getElem_cons_zero, List.getElem_cons_succ, List.setIfInBounds_toArray, List.set_cons_zero, List.set_cons_succ]
      refine wpAnyH_take (i := 3) (v := ?_) rfl (by kernel_rfl) (by kernel_rfl) (by kernel_rfl) (fun _ _ _ h => h) (Or.inl ⟨by rfl, ?_⟩) (by assumption) ?_
      rotate_left
      · intro wz hSw
        try dsimp only at hSw
        go_simp
        try rfl
      simp only [Act.put, List.getElem_toArray, List.getElem_cons_zero, List.getElem_cons_succ, List.setIfInBounds_toArray, List.set_cons_zero, List.set_cons_succ]
      refine wpAnyH_take (i := 4) (v := ?_) rfl (by kernel_rfl) (by kernel_rfl) (by kernel_rfl) (fun _ _ _ h => h) (Or.inl ⟨by rfl, ?_⟩) (by assumption) ?_
      rotate_left
      · intro wz hSw
        try dsimp only at hSw
        go_simp
        try rfl
      simp only [Act.put, List.getElem_toArray, List.getElem_cons_zero, List.getElem_cons_succ, List.setIfInBounds_toArray, List.set_cons_zero, List.set_cons_succ]
      refine wpAnyH_ready (rs := [1, 5]) (by kernel_rfl) (by simp) ?_
      refine AllReadyH.cons rfl (fun K hK => ?_) (AllReadyH.cons rfl (fun K hK => ?_) AllReadyH.nil)
      · have c1 : w6.drew.cell? ⟨W.heap.size, 1, none⟩ = some u := cell_of_row _ _ 1 _ _ (0, 0) HR6.out
        rw [if_pos (by rfl)]
        go_simp
        refine hK.out _ _ ((HT.out _ HK6.out.old.drew).1) (fun hHeld => ?_)
        clear hK K
        clear c1
        try simp only [Act.put, List.getElem_toArray, List.getElem_cons_zero, List.getElem_cons_succ, List.setIfInBounds_toArray, List.set_cons_zero, List.set_cons_succ]
        refine wpAnyH_ready (rs := [5]) (by kernel_rfl) (by simp) ?_
        refine AllReadyH.cons rfl (fun K hK => ?_) AllReadyH.nil
        rw [if_pos (by rfl)]
        go_simp
        refine (HRow.out _).mono ?_
        rintro e w7 ⟨rfl, o7, ful7⟩
        have HO7 : Hid (Old w6 w7) := (Old.refl w6).drew.trans o7
        have HF7 : Hid (Full w7 w6.heap.size 3 (rowAt G i)) := ful7
        have HK7 : Hid (Kp W G (tri7 u0 u1 u2) (i + 1) i (.slice (some ⟨g5, 0, none⟩) (i + 1) cap5) u bk w7) := HK6.out.old' HO7.out
        have HR7 : Hid (w7.heap[W.heap.size]? = some (.cells #[.slice (some ⟨g5, 0, none⟩) (i + 1) cap5, u] 34 (0, 0))) := (HO7.out.block _ HK6.out.big).trans HR6.out
        clear o7 ful7
        refine hK.out _ _ ((HT.out _ HK7.out.old).1) (fun hHeld => ?_)
        clear hK K
        try simp only [Act.put, List.getElem_toArray, List.getElem_cons_zero, List.getElem_cons_succ, List.setIfInBounds_toArray, List.set_cons_zero, List.set_cons_succ]
        refine wpAnyH_ready (rs := [6]) (by kernel_rfl) (by simp) ?_
        refine AllReadyH.cons rfl (fun K hK => ?_) AllReadyH.nil
        rw [if_pos (by rfl)]
        go_simp
        refine hK.out _ _ ((HT.out _ (HK7.out.old.alloc _)).1) (fun hHeld => ?_)
        clear hK K
        try simp only [Act.put, List.getElem_toArray, List.getElem_cons_zero, List.getElem_cons_succ, List.setIfInBounds_toArray, List.set_cons_zero, List.set_cons_succ]
        refine wpAnyH_ready (rs := [7]) (by kernel_rfl) (by simp) ?_
        refine AllReadyH.cons rfl (fun K hK => ?_) AllReadyH.nil
        have hs7 : W.heap.size + 1 ≤ w7.heap.size := HK7.out.big
        refine step_append_lies _ (by rfl) (.tmp 21) (.tmp 26) 26 (by rfl) (W.heap.size + 1) 27 j0 (.slice none 0 0) 1 24 Try.underlying26 hj0 hy0 hy1 hy2 rfl (by decide) u i _ (by rfl) (World.ownsRow.alloc HK7.out.own _) ⟨w7.heap.size, 0, none⟩ 1 1 [.slice (some ⟨w6.heap.size, 0, none⟩) 3 3] (by rfl) rfl (cell_one_new _ _ _) (by intro x hx; simp at hx; subst hx; rfl) (by decide) (by unfold maxLen; omega) (by omega) (by simp; omega) _ rfl ?_
        intro g8 cap8 w8 hown8 hgrow8 hat8 _
        have HK8 : Hid (Kp W G (tri7 u0 u1 u2) (i + 1) (i + 1) (.slice (some ⟨g5, 0, none⟩) (i + 1) cap5) (.slice (some ⟨g8, 0, none⟩) (i + 1) cap8) (fun j => if j = i then w6.heap.size else bk j) w8) := (HK7.out.old' ((Old.refl _).alloc _)).bas HK6.out.big (HF7.out.old ((Old.refl _).alloc _)) (own_new_ne HK6.out.nums (Nat.le_refl _)) (own_new_ne HK6.out.own (Nat.le_refl _)) hown8 hgrow8 (by simpa using hat8)
        have HR8 : Hid (w8.heap[W.heap.size]? = some (.cells #[.slice (some ⟨g5, 0, none⟩) (i + 1) cap5, u] 34 (0, 0))) := by
          have hlt1 : W.heap.size < w7.heap.size := by omega
          unfold Hid
          rw [hgrow8.block W.heap.size (by simp; omega) (fun e => by have := (World.ownsRow.lt HK7.out.own _ e.symm).1; omega), Below.heap_alloc _ _ _ hlt1]
          exact HR7.out
        clear hown8 hgrow8 hat8
        refine hK.out _ _ ((HT.out _ HK8.out.old).1) (fun hHeld => ?_)
        clear hK K
        try simp only [Act.put, List.getElem_toArray, List.getElem_cons_zero, List.getElem_cons_succ, List.setIfInBounds_toArray, List.set_cons_zero, List.set_cons_succ]
        refine wpAnyH_take (i := 8) (v := ?_) rfl (by kernel_rfl) (by kernel_rfl) (by kernel_rfl) (fun _ _ _ h => h) (Or.inl ⟨by rfl, ?_⟩) (by assumption) ?_
        rotate_left
        · intro wz hSw
          try dsimp only at hSw
          go_simp
          try rfl
        simp only [Act.put, List.getElem_toArray, List.getElem_cons_zero, List.getElem_cons_succ, List.setIfInBounds_toArray, List.set_cons_zero, List.set_cons_succ]
        refine wpAnyH_ready (rs := [9]) (by kernel_rfl) (by simp) ?_
        refine AllReadyH.cons rfl (fun K hK => ?_) AllReadyH.nil
        have q1 : w8.cell? ⟨W.heap.size, 1, none⟩ = some u := cell_of_row _ _ 1 _ _ (0, 0) HR8.out
        have f1 : w8.frozen? ⟨W.heap.size, 1, none⟩ = false := row_frozen HR8.out 1
        rw [if_pos (by rfl)]
        go_simp
        refine hK.out _ _ ((HT.out _ (HK8.out.set 1 _).old).1) (fun hHeld => ?_)
        clear hK K
        try simp only [Act.put, List.getElem_toArray, List.getElem_cons_zero, List.getElem_cons_succ, List.setIfInBounds_toArray, List.set_cons_zero, List.set_cons_succ]
        refine wpAnyH_done (by kernel_rfl) ?_ _
        have HK9 : Hid (Kp W G (tri7 u0 u1 u2) (i + 1) (i + 1) (.slice (some ⟨g5, 0, none⟩) (i + 1) cap5) (.slice (some ⟨g8, 0, none⟩) (i + 1) cap8) (fun j => if j = i then w6.heap.size else bk j) (w8.setCell ⟨W.heap.size, 1, none⟩ (.slice (some ⟨g8, 0, none⟩) (i + 1) cap8))) := HK8.out.set 1 _
        have HR9 : Hid ((w8.setCell ⟨W.heap.size, 1, none⟩ (.slice (some ⟨g8, 0, none⟩) (i + 1) cap8)).heap[W.heap.size]? = some (.cells #[.slice (some ⟨g5, 0, none⟩) (i + 1) cap5, .slice (some ⟨g8, 0, none⟩) (i + 1) cap8] 34 (0, 0))) := by have := set_row HR8.out 1 (.slice (some ⟨g8, 0, none⟩) (i + 1) cap8); unfold Hid; simpa using this
        clear q1 f1
        go_wp2_with fail
        go_roundw
        case rel => exact ⟨i + 1, _, _, _, idx_next i, by omega, HK9, HR9⟩
        case measure => simp [intOf]; omega
      · rw [if_pos (by rfl)]
        go_simp
        refine (HRow.out _).mono ?_
        rintro e w7 ⟨rfl, o7, ful7⟩
        have HO7 : Hid (Old w6 w7) := (Old.refl w6).drew.trans o7
        have HF7 : Hid (Full w7 w6.heap.size 3 (rowAt G i)) := ful7
        have HK7 : Hid (Kp W G (tri7 u0 u1 u2) (i + 1) i (.slice (some ⟨g5, 0, none⟩) (i + 1) cap5) u bk w7) := HK6.out.old' HO7.out
        have HR7 : Hid (w7.heap[W.heap.size]? = some (.cells #[.slice (some ⟨g5, 0, none⟩) (i + 1) cap5, u] 34 (0, 0))) := (HO7.out.block _ HK6.out.big).trans HR6.out
        clear o7 ful7
        refine hK.out _ _ ((HT.out _ HK7.out.old).1) (fun hHeld => ?_)
        clear hK K
        try simp only [Act.put, List.getElem_toArray, List.getElem_cons_zero, List.getElem_cons_succ, List.setIfInBounds_toArray, List.set_cons_zero, List.set_cons_succ]
        refine wpAnyH_ready (rs := [1, 6]) (by kernel_rfl) (by simp) ?_
        refine AllReadyH.cons rfl (fun K hK => ?_) (AllReadyH.cons rfl (fun K hK => ?_) AllReadyH.nil)
        · have c1 : w7.cell? ⟨W.heap.size, 1, none⟩ = some u := cell_of_row _ _ 1 _ _ (0, 0) HR7.out
          rw [if_pos (by rfl)]
          go_simp
          refine hK.out _ _ ((HT.out _ HK7.out.old).1) (fun hHeld => ?_)
          clear hK K
          clear c1
          try simp only [Act.put, List.getElem_toArray, List.getElem_cons_zero, List.getElem_cons_succ, List.setIfInBounds_toArray, List.set_cons_zero, List.set_cons_succ]
          refine wpAnyH_ready (rs := [6]) (by kernel_rfl) (by simp) ?_
          refine AllReadyH.cons rfl (fun K hK => ?_) AllReadyH.nil
          rw [if_pos (by rfl)]
          go_simp
          refine hK.out _ _ ((HT.out _ (HK7.out.old.alloc _)).1) (fun hHeld => ?_)
          clear hK K
          try simp only [Act.put, List.getElem_toArray, List.getElem_cons_zero, List.getElem_cons_succ, List.setIfInBounds_toArray, List.set_cons_zero, List.set_cons_succ]
          refine wpAnyH_ready (rs := [7]) (by kernel_rfl) (by simp) ?_
          refine AllReadyH.cons rfl (fun K hK => ?_) AllReadyH.nil
          have hs7 : W.heap.size + 1 ≤ w7.heap.size := HK7.out.big
          refine step_append_lies _ (by rfl) (.tmp 21) (.tmp 26) 26 (by rfl) (W.heap.size + 1) 27 j0 (.slice none 0 0) 1 24 Try.underlying26 hj0 hy0 hy1 hy2 rfl (by decide) u i _ (by rfl) (World.ownsRow.alloc HK7.out.own _) ⟨w7.heap.size, 0, none⟩ 1 1 [.slice (some ⟨w6.heap.size, 0, none⟩) 3 3] (by rfl) rfl (cell_one_new _ _ _) (by intro x hx; simp at hx; subst hx; rfl) (by decide) (by unfold maxLen; omega) (by omega) (by simp; omega) _ rfl ?_
          intro g8 cap8 w8 hown8 hgrow8 hat8 _
          have HK8 : Hid (Kp W G (tri7 u0 u1 u2) (i + 1) (i + 1) (.slice (some ⟨g5, 0, none⟩) (i + 1) cap5) (.slice (some ⟨g8, 0, none⟩) (i + 1) cap8) (fun j => if j = i then w6.heap.size else bk j) w8) := (HK7.out.old' ((Old.refl _).alloc _)).bas HK6.out.big (HF7.out.old ((Old.refl _).alloc _)) (own_new_ne HK6.out.nums (Nat.le_refl _)) (own_new_ne HK6.out.own (Nat.le_refl _)) hown8 hgrow8 (by simpa using hat8)
          have HR8 : Hid (w8.heap[W.heap.size]? = some (.cells #[.slice (some ⟨g5, 0, none⟩) (i + 1) cap5, u] 34 (0, 0))) := by
            have hlt1 : W.heap.size < w7.heap.size := by omega
            unfold Hid
            rw [hgrow8.block W.heap.size (by simp; omega) (fun e => by have := (World.ownsRow.lt HK7.out.own _ e.symm).1; omega), Below.heap_alloc _ _ _ hlt1]
            exact HR7.out
          clear hown8 hgrow8 hat8
          refine hK.out _ _ ((HT.out _ HK8.out.old).1) (fun hHeld => ?_)
          clear hK K
          try simp only [Act.put, List.getElem_toArray, List.getElem_cons_zero, List.getElem_cons_succ, List.setIfInBounds_toArray, List.set_cons_zero, List.set_cons_succ]
          refine wpAnyH_take (i := 8) (v := ?_) rfl (by kernel_rfl) (by kernel_rfl) (by kernel_rfl) (fun _ _ _ h => h) (Or.inl ⟨by rfl, ?_⟩) (by assumption) ?_
          rotate_left
          · intro wz hSw
            try dsimp only at hSw
            go_simp
            try rfl
          simp only [Act.put, List.getElem_toArray, List.getElem_cons_zero, List.getElem_cons_succ, List.setIfInBounds_toArray, List.set_cons_zero, List.set_cons_succ]
          refine wpAnyH_ready (rs := [9]) (by kernel_rfl) (by simp) ?_
          refine AllReadyH.cons rfl (fun K hK => ?_) AllReadyH.nil
          have q1 : w8.cell? ⟨W.heap.size, 1, none⟩ = some u := cell_of_row _ _ 1 _ _ (0, 0) HR8.out
          have f1 : w8.frozen? ⟨W.heap.size, 1, none⟩ = false := row_frozen HR8.out 1
          rw [if_pos (by rfl)]
          go_simp
          refine hK.out _ _ ((HT.out _ (HK8.out.set 1 _).old).1) (fun hHeld => ?_)
          clear hK K
          try simp only [Act.put, List.getElem_toArray, List.getElem_cons_zero, List.getElem_cons_succ, List.setIfInBounds_toArray, List.set_cons_zero, List.set_cons_succ]
          refine wpAnyH_done (by kernel_rfl) ?_ _
          have HK9 : Hid (Kp W G (tri7 u0 u1 u2) (i + 1) (i + 1) (.slice (some ⟨g5, 0, none⟩) (i + 1) cap5) (.slice (some ⟨g8, 0, none⟩) (i + 1) cap8) (fun j => if j = i then w6.heap.size else bk j) (w8.setCell ⟨W.heap.size, 1, none⟩ (.slice (some ⟨g8, 0, none⟩) (i + 1) cap8))) := HK8.out.set 1 _
          have HR9 : Hid ((w8.setCell ⟨W.heap.size, 1, none⟩ (.slice (some ⟨g8, 0, none⟩) (i + 1) cap8)).heap[W.heap.size]? = some (.cells #[.slice (some ⟨g5, 0, none⟩) (i + 1) cap5, .slice (some ⟨g8, 0, none⟩) (i + 1) cap8] 34 (0, 0))) := by have := set_row HR8.out 1 (.slice (some ⟨g8, 0, none⟩) (i + 1) cap8); unfold Hid; simpa using this
          clear q1 f1
          go_wp2_with fail
          go_roundw
          case rel => exact ⟨i + 1, _, _, _, idx_next i, by omega, HK9, HR9⟩
          case measure => simp [intOf]; omega
        · rw [if_pos (by rfl)]
          go_simp
          refine hK.out _ _ ((HT.out _ (HK7.out.old.alloc _)).1) (fun hHeld => ?_)
          clear hK K
          try simp only [Act.put, List.getElem_toArray, List.getElem_cons_zero, List.getElem_cons_succ, List.setIfInBounds_toArray, List.set_cons_zero, List.set_cons_succ]
          refine wpAnyH_ready (rs := [1]) (by kernel_rfl) (by simp) ?_
          refine AllReadyH.cons rfl (fun K hK => ?_) AllReadyH.nil
          have c1 : (w7.alloc (.cells #[.slice (some ⟨w6.heap.size, 0, none⟩) 3 3] 27)).cell? ⟨W.heap.size, 1, none⟩ = some u := ((Old.refl w7).alloc _).cellOf (cell_of_row _ _ 1 _ _ (0, 0) HR7.out)
          rw [if_pos (by rfl)]
          go_simp
          refine hK.out _ _ ((HT.out _ (HK7.out.old.alloc _)).1) (fun hHeld => ?_)
          clear hK K
          clear c1
          try simp only [Act.put, List.getElem_toArray, List.getElem_cons_zero, List.getElem_cons_succ, List.setIfInBounds_toArray, List.set_cons_zero, List.set_cons_succ]
          refine wpAnyH_ready (rs := [7]) (by kernel_rfl) (by simp) ?_
          refine AllReadyH.cons rfl (fun K hK => ?_) AllReadyH.nil
          have hs7 : W.heap.size + 1 ≤ w7.heap.size := HK7.out.big
          refine step_append_lies _ (by rfl) (.tmp 21) (.tmp 26) 26 (by rfl) (W.heap.size + 1) 27 j0 (.slice none 0 0) 1 24 Try.underlying26 hj0 hy0 hy1 hy2 rfl (by decide) u i _ (by rfl) (World.ownsRow.alloc HK7.out.own _) ⟨w7.heap.size, 0, none⟩ 1 1 [.slice (some ⟨w6.heap.size, 0, none⟩) 3 3] (by rfl) rfl (cell_one_new _ _ _) (by intro x hx; simp at hx; subst hx; rfl) (by decide) (by unfold maxLen; omega) (by omega) (by simp; omega) _ rfl ?_
          intro g8 cap8 w8 hown8 hgrow8 hat8 _
          have HK8 : Hid (Kp W G (tri7 u0 u1 u2) (i + 1) (i + 1) (.slice (some ⟨g5, 0, none⟩) (i + 1) cap5) (.slice (some ⟨g8, 0, none⟩) (i + 1) cap8) (fun j => if j = i then w6.heap.size else bk j) w8) := (HK7.out.old' ((Old.refl _).alloc _)).bas HK6.out.big (HF7.out.old ((Old.refl _).alloc _)) (own_new_ne HK6.out.nums (Nat.le_refl _)) (own_new_ne HK6.out.own (Nat.le_refl _)) hown8 hgrow8 (by simpa using hat8)
          have HR8 : Hid (w8.heap[W.heap.size]? = some (.cells #[.slice (some ⟨g5, 0, none⟩) (i + 1) cap5, u] 34 (0, 0))) := by
            have hlt1 : W.heap.size < w7.heap.size := by omega
            unfold Hid
            rw [hgrow8.block W.heap.size (by simp; omega) (fun e => by have := (World.ownsRow.lt HK7.out.own _ e.symm).1; omega), Below.heap_alloc _ _ _ hlt1]
            exact HR7.out
          clear hown8 hgrow8 hat8
          refine hK.out _ _ ((HT.out _ HK8.out.old).1) (fun hHeld => ?_)
          clear hK K
          try simp only [Act.put, List.getElem_toArray, List.getElem_cons_zero, List.getElem_cons_succ, List.setIfInBounds_toArray, List.set_cons_zero, List.set_cons_succ]
          refine wpAnyH_take (i := 8) (v := ?_) rfl (by kernel_rfl) (by kernel_rfl) (by kernel_rfl) (fun _ _ _ h => h) (Or.inl ⟨by rfl, ?_⟩) (by assumption) ?_
          rotate_left
          · intro wz hSw
            try dsimp only at hSw
            go_simp
            try rfl
          simp only [Act.put, List.getElem_toArray, List.getElem_cons_zero, List.getElem_cons_succ, List.setIfInBounds_toArray, List.set_cons_zero, List.set_cons_succ]
          refine wpAnyH_ready (rs := [9]) (by kernel_rfl) (by simp) ?_
          refine AllReadyH.cons rfl (fun K hK => ?_) AllReadyH.nil
          have q1 : w8.cell? ⟨W.heap.size, 1, none⟩ = some u := cell_of_row _ _ 1 _ _ (0, 0) HR8.out
          have f1 : w8.frozen? ⟨W.heap.size, 1, none⟩ = false := row_frozen HR8.out 1
          rw [if_pos (by rfl)]
          go_simp
          refine hK.out _ _ ((HT.out _ (HK8.out.set 1 _).old).1) (fun hHeld => ?_)
          clear hK K
          try simp only [Act.put, List.getElem_toArray, List.getElem_cons_zero, List.getElem_cons_succ, List.setIfInBounds_toArray, List.set_cons_zero, List.set_cons_succ]
          refine wpAnyH_done (by kernel_rfl) ?_ _
          have HK9 : Hid (Kp W G (tri7 u0 u1 u2) (i + 1) (i + 1) (.slice (some ⟨g5, 0, none⟩) (i + 1) cap5) (.slice (some ⟨g8, 0, none⟩) (i + 1) cap8) (fun j => if j = i then w6.heap.size else bk j) (w8.setCell ⟨W.heap.size, 1, none⟩ (.slice (some ⟨g8, 0, none⟩) (i + 1) cap8))) := HK8.out.set 1 _
          have HR9 : Hid ((w8.setCell ⟨W.heap.size, 1, none⟩ (.slice (some ⟨g8, 0, none⟩) (i + 1) cap8)).heap[W.heap.size]? = some (.cells #[.slice (some ⟨g5, 0, none⟩) (i + 1) cap5, .slice (some ⟨g8, 0, none⟩) (i + 1) cap8] 34 (0, 0))) := by have := set_row HR8.out 1 (.slice (some ⟨g8, 0, none⟩) (i + 1) cap8); unfold Hid; simpa using this
          clear q1 f1
          go_wp2_with fail
          go_roundw
          case rel => exact ⟨i + 1, _, _, _, idx_next i, by omega, HK9, HR9⟩
          case measure => simp [intOf]; omega
    · have he : i = 3 := by omega
      subst he
      have c0 : wr.cell? ⟨W.heap.size, 0, none⟩ = some v := cell_of_row _ _ 0 _ _ (0, 0) HR.out
      have c1 : wr.cell? ⟨W.heap.size, 1, none⟩ = some u := cell_of_row _ _ 1 _ _ (0, 0) HR.out
      have HRr := HRS.out _ HK.out.old
      obtain ⟨bt, ct, rfl⟩ := own_slice HK.out.nums
      obtain ⟨bb, cb, rfl⟩ := own_slice HK.out.own
      have q0 : wr.cell? ⟨w.heap.size + 1 + 1, 0, none⟩ = some (.slice none 0 0) := cell_of_row _ _ 0 _ _ (0, 0) HRr
      have q1 : wr.cell? ⟨w.heap.size + 1 + 1, 1, none⟩ = some (.slice none 0 0) := cell_of_row _ _ 1 _ _ (0, 0) HRr
      have f0 : wr.frozen? ⟨w.heap.size + 1 + 1, 0, none⟩ = false := row_frozen HRr 0
      have f1 : wr.frozen? ⟨w.heap.size + 1 + 1, 1, none⟩ = false := row_frozen HRr 1
      have HRh : Hid (wr.heap[w.heap.size + 1 + 1]? = some (.cells #[.slice none 0 0, .slice none 0 0] 34 (0, 0))) := HRr
      clear HRr
      go_wp2_with fail
      exact bodyPost_ret (result5 (b := w.heap.size + 1 + 1) rfl rfl (load_two HRh.out Try.underlying34 info_claim)) rfl (givesC_set (by omega) hs0 (HW0.out.trans HK.out.old) HW0.out.size (HK.out.nums.mono (Nat.le_succ _)) (HK.out.rws.mono (Nat.le_succ _)))

end Go.Proofs.Ytokhpppealdfmaf
