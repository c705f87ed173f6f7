/-
  The program's piece taken into the eight numbers (layer 3).
-/
import Derived.Test.YtljfjjfckepkdabDround
namespace Go.Proofs.Ytljfjjfckepkdab
open Go.RowKit

theorem one_eq' (a b c d e : Int) : ((a + b + c + d) % 4294967296 + e) % 4294967296 = add32 (add32 (add32 (add32 a b) c) d) e := by
  unfold add32
  omega
/-- Where the piece's things lie. -/
structure PieceAt (w W : World) (bk bw : Nat) (tk th : TypeId) (h S : Nat → Int) : Prop where
  old : Old w W
  ks : W.rowIs bk tk 64 (fun i => .int .u32 (kS i))
  hs : W.rowIs w.heap.size th 8 (fun i => .int .u32 (h i))
  out : W.rowIs (w.heap.size + 1) th 8 (fun _ => .int .u32 0)
  ws : W.rowIs bw tk 64 (fun i => .int .u32 (S i))
theorem piece_at {w w1 w2 : World} {tk th : TypeId} {h S : Nat → Int} (ho : Old ((w.alloc (.cells (arr 8 fun i => .int .u32 (h i)) th)).alloc (.cells (arr 8 fun _ => .int .u32 0) th)) w1) (ho2 : Old w1 w2) :
    PieceAt w ((w2.alloc (.cells (arr 64 fun i => .int .u32 (kS i)) tk)).alloc (.cells (arr 64 fun i => .int .u32 (S i)) tk)) w2.heap.size (w2.heap.size + 1) tk th h S := by
  have hh := (row_new w th 8 (fun i => .int .u32 (h i))).alloc (.cells (arr 8 fun _ => .int .u32 0) th)
  have hz := row_new (w.alloc (.cells (arr 8 fun i => .int .u32 (h i)) th)) th 8 (fun _ => .int .u32 0)
  rw [show (w.alloc (.cells (arr 8 fun i => .int .u32 (h i)) th)).heap.size = w.heap.size + 1 by simp] at hz
  have hw := row_new (w2.alloc (.cells (arr 64 fun i => .int .u32 (kS i)) tk)) tk 64 (fun i => .int .u32 (S i))
  rw [show (w2.alloc (.cells (arr 64 fun i => .int .u32 (kS i)) tk)).heap.size = w2.heap.size + 1 by simp] at hw
  refine ⟨?_, ?_, ?_, ?_, hw⟩
  · exact ((((((Old.refl w).alloc _).alloc _).trans ho).trans ho2).alloc _).alloc _
  · exact (row_new w2 tk 64 _).alloc _
  · exact ((ho2.row (ho.row hh)).alloc _).alloc _
  · exact ((ho2.row (ho.row hz)).alloc _).alloc _

theorem setRow_under (w : World) (c cs : Array Value) (t : TypeId) (o : Obj) : ((w.alloc (.cells c t)).alloc o).setRow w.heap.size cs = (w.alloc (.cells cs t)).alloc o := by
  simp only [World.setRow, World.alloc]
  congr 1
  apply Array.ext_getElem?
  intro i
  rw [Array.getElem?_modify]
  simp only [Array.getElem?_push, Array.size_push]
  by_cases h1 : w.heap.size = i
  · subst h1
    simp
  · rw [if_neg h1]
    simp [show ¬ i = w.heap.size from fun e => h1 e.symm]
/-- A whole array into the block that was made last but one. -/
theorem store_under {P : Program} (w : World) (t : TypeId) (c c' : Array Value) (o : Obj) (hi : (P.info? t).map (·.size) = some c'.size) (ho : c.size = c'.size) (h1 : c'.all (·.oneCell') = true) :
    (storeCells ⟨w.heap.size, 0, none⟩ c'.toList 0).run P ((w.alloc (.cells c t)).alloc o) = .ok () ((w.alloc (.cells c' t)).alloc o) := by
  have hg : ((w.alloc (.cells c t)).alloc o).heap[w.heap.size]? = some (.cells c t (0, 0)) := by
    simp only [World.alloc]
    rw [Array.getElem?_push]
    simp
  have := run_storeVar_row (P := P) ((w.alloc (.cells c t)).alloc o) w.heap.size t t c c' hg hi ho h1
  rw [setRow_under] at this
  cases hq : P.info? t with
  | none => simp [hq] at hi
  | some i =>
    have hs : c'.size = i.size := by simp [hq] at hi; omega
    simpa [storeVar, sizeOf, typeInfo, hq, Value.cells, hs] using this
theorem store_top {P : Program} (w : World) (t : TypeId) (c c' : Array Value) (o : Obj) (hi : (P.info? t).map (·.size) = some c'.size) (ho : c.size = c'.size) (h1 : c'.all (·.oneCell') = true) :
    (storeCells ⟨w.heap.size + 1, 0, none⟩ c'.toList 0).run P ((w.alloc o).alloc (.cells c t)) = .ok () ((w.alloc o).alloc (.cells c' t)) := by
  have := run_storeCells_new (P := P) (w.alloc o) t c c' hi ho h1
  rwa [show (w.alloc o).heap.size = w.heap.size + 1 by simp] at this

theorem draws_on {W wr : World} {n : Nat} (h : ∃ n, wr = W.drewN n) : ∃ m, wr.drewN n = W.drewN m := by
  obtain ⟨k, rfl⟩ := h
  exact ⟨k + n, World.drewN_drewN W k n⟩

set_option maxRecDepth 100000 in
set_option maxHeartbeats 4000000 in
theorem dpiece_any (h : Nat → Int) (xs : List Int) (w : World) (hx : Bts xs) (hl : xs.length = 64) :
    Calls Try.prog 44 #[.agg (arr 8 fun i => .int .u32 (h i)), .string (strOfNums xs)] w fun e w' => e = .returned (.agg (arr 8 fun i => .int .u32 (add32 (h i) (rounds (sched (fun i => xs.getD i 0) 64) 64 h i)))) ∧ Old w w' := by
  have hsp : ∀ wx, Calls Try.prog 50 #[.string (strOfNums xs)] wx fun e w' => e = .returned (.agg (arr 64 fun i => .int .u32 (sched (fun i => xs.getD i 0) 64 i))) ∧ Old wx w' := fun wx => dspread_any xs wx hx hl
  generalize sched (fun i => xs.getD i 0) 64 = S at *
  have HS : Hid (∀ wx, Calls Try.prog 50 #[.string (strOfNums xs)] wx fun e w' => e = .returned (.agg (arr 64 fun i => .int .u32 (S i))) ∧ Old wx w') := hsp
  clear hsp hx hl
  have hzs : ∀ n f, (arr n f).size = n := arr_size
  have hst : ∀ (wx : World) (o : Obj) (c : Array Value), c.size = 64 → (storeCells ⟨wx.heap.size + 1, 0, none⟩ (arr 64 fun i => .int .u32 (S i)).toList 0).run Try.prog ((wx.alloc o).alloc (.cells c 76)) = .ok () ((wx.alloc o).alloc (.cells (arr 64 fun i => .int .u32 (S i)) 76)) := fun wx o c hc => store_top wx _ c _ o (by rw [arr_size]; exact info64) (by rw [arr_size]; exact hc) (arr_one _)
  have hsk : ∀ (wx : World) (o : Obj) (c : Array Value), c.size = 64 → (storeCells ⟨wx.heap.size, 0, none⟩ (arr 64 fun i => .int .u32 (kS i)).toList 0).run Try.prog ((wx.alloc (.cells c 76)).alloc o) = .ok () ((wx.alloc (.cells (arr 64 fun i => .int .u32 (kS i)) 76)).alloc o) := fun wx o c hc => store_under wx _ c _ o (by rw [arr_size]; exact info64) (by rw [arr_size]; exact hc) (arr_one _)
  go_enter Try.func44, Try.ntmps44
  go_upto_region 2 with (first
    | (go_at_call 49; refine (dround_any _).mono ?_; rintro e w1 ⟨rfl, ho1⟩)
    | (go_at_call 50; refine (HS.out _).mono ?_; rintro e w' ⟨rfl, ho⟩))
  have HP : Hid (PieceAt w ((w'.alloc (.cells (arr 64 fun i => .int .u32 (kS i)) 76)).alloc (.cells (arr 64 fun i => .int .u32 (S i)) 76)) w'.heap.size (w'.heap.size + 1) 76 55 h S) := piece_at ho1 ho
  clear ho ho1 hst hsk
  obtain ⟨W, hW⟩ : ∃ x, x = (w'.alloc (.cells (arr 64 fun i => .int .u32 (kS i)) 76)).alloc (.cells (arr 64 fun i => .int .u32 (S i)) 76) := ⟨_, rfl⟩
  rw [← hW] at HP
  rw [← hW]
  clear hW
  obtain ⟨bw, hbw⟩ : ∃ b, b = w'.heap.size + 1 := ⟨_, rfl⟩
  rw [← hbw] at HP
  rw [← hbw]
  clear hbw
  obtain ⟨bk, hbk⟩ : ∃ b, b = w'.heap.size := ⟨_, rfl⟩
  rw [← hbk] at HP
  rw [← hbk]
  clear hbk
  have x0 := HP.out.hs.cell (i := 0) (by omega)
  have x1 := HP.out.hs.cell (i := 1) (by omega)
  have x2 := HP.out.hs.cell (i := 2) (by omega)
  have x3 := HP.out.hs.cell (i := 3) (by omega)
  have x4 := HP.out.hs.cell (i := 4) (by omega)
  have x5 := HP.out.hs.cell (i := 5) (by omega)
  have x6 := HP.out.hs.cell (i := 6) (by omega)
  have x7 := HP.out.hs.cell (i := 7) (by omega)
  go_quiet (fail)
  go_wp2_with fail
  clear x0 x1 x2 x3 x4 x5 x6 x7
  go_loopw [7, 8, 9, 10, 11, 12, 13, 14, 37] (fun a b c d e f g l iv wx => ∃ t : Nat, iv = .int .i64 (t : Int) ∧ t ≤ 64 ∧ a = .int .u32 (rounds S t h 0) ∧ b = .int .u32 (rounds S t h 1) ∧ c = .int .u32 (rounds S t h 2) ∧ d = .int .u32 (rounds S t h 3) ∧ e = .int .u32 (rounds S t h 4) ∧ f = .int .u32 (rounds S t h 5) ∧ g = .int .u32 (rounds S t h 6) ∧ l = .int .u32 (rounds S t h 7) ∧ Hid (∃ n, wx = W.drewN n)) (fun _ _ _ _ _ _ _ _ iv _ => 64 - (intOf iv).toNat)
  case atStart => exact ⟨0, rfl, Nat.zero_le _, rfl, rfl, rfl, rfl, rfl, rfl, rfl, rfl, _, rfl⟩
  case round =>
    obtain ⟨t, rfl, ht, rfl, rfl, rfl, rfl, rfl, rfl, rfl, rfl, HW⟩ := hrel
    obtain ⟨n0, hn0⟩ := HW.out
    have HN : Hid (PieceAt w wr bk bw 76 55 h S) := by rw [hn0]; exact ⟨HP.out.old.drewN n0, HP.out.ks, HP.out.hs, HP.out.out, HP.out.ws⟩
    clear hn0
    by_cases hlt : t < 64
    · have ck := HN.out.ks.cell hlt
      have cw := HN.out.ws.cell hlt
      have HV : Hid (∀ i, rounds S (t + 1) h i = round32 (rounds S t h) (kS t) (S t) i) := fun _ => rfl
      generalize kS t = kk at *
      generalize hr : rounds S t h = r at *
      clear hr
      have tt : (t : Int) < 64 := by omega
      have t0 : (0 : Int) ≤ (t : Int) := by omega
      go_upto_region 6 with fail
      go_cut [16, 37] from 38 to 76 (fun ov iv wx => ov = .int .u32 (one32 r kk (S t)) ∧ iv = .int .i64 (t : Int) ∧ ∃ n, wx = wr.drewN n)
      case first =>
        go_quiet (first
          | (go_at_call 51; exact Calls.quiet_of_same (dturned_any _ 6 11 25 _ (by omega) (by omega) (by omega)))
          | (go_at_call 52; exact Calls.quiet_of_same (dchoice_any _ _ _ _)))
        go_wp2_with fail
        go_meet
        case rel => exact ⟨congrArg (Value.int .u32) (one_eq' (r 7) (big1 (r 4)) (pick (r 4) (r 5) (r 6)) kk (S t)), rfl, _, rfl⟩
      obtain ⟨rfl, rfl, nd, rfl⟩ := hcut
      have HO : Hid (∃ o, o = one32 r kk (S t)) := ⟨_, rfl⟩
      obtain ⟨o, ho⟩ := HO.out
      rw [← ho]
      have HO : Hid (o = one32 r kk (S t)) := ho
      clear ho
      go_wp2_with (first
        | (go_at_call 51; refine (dturned_any _ 2 13 22 _ (by omega) (by omega) (by omega)).mono ?_; rintro e w' ⟨rfl, rfl⟩)
        | (go_at_call 53; refine (dmost_any _ _ _ _).mono ?_; rintro e w' ⟨rfl, rfl⟩))
      go_roundw
      case rel => exact ⟨t + 1, by go_num, by omega, by rw [HV.out 0, HO.out]; rfl, by rw [HV.out 1]; rfl, by rw [HV.out 2]; rfl, by rw [HV.out 3]; rfl, by rw [HV.out 4, HO.out]; rfl, by rw [HV.out 5]; rfl, by rw [HV.out 6]; rfl, by rw [HV.out 7]; rfl, draws_on HW.out⟩
      case measure => simp [intOf]; omega
    · have he : t = 64 := by omega
      subst he
      have y0 := HN.out.hs.cell (i := 0) (by omega)
      have y1 := HN.out.hs.cell (i := 1) (by omega)
      have y2 := HN.out.hs.cell (i := 2) (by omega)
      have y3 := HN.out.hs.cell (i := 3) (by omega)
      have y4 := HN.out.hs.cell (i := 4) (by omega)
      have y5 := HN.out.hs.cell (i := 5) (by omega)
      have y6 := HN.out.hs.cell (i := 6) (by omega)
      have y7 := HN.out.hs.cell (i := 7) (by omega)
      have c0 := HN.out.out.cell (i := 0) (by omega)
      have c1 := HN.out.out.cell (i := 1) (by omega)
      have c2 := HN.out.out.cell (i := 2) (by omega)
      have c3 := HN.out.out.cell (i := 3) (by omega)
      have c4 := HN.out.out.cell (i := 4) (by omega)
      have c5 := HN.out.out.cell (i := 5) (by omega)
      have c6 := HN.out.out.cell (i := 6) (by omega)
      have c7 := HN.out.out.cell (i := 7) (by omega)
      have f0 := HN.out.out.frozen 0
      have f1 := HN.out.out.frozen 1
      have f2 := HN.out.out.frozen 2
      have f3 := HN.out.out.frozen 3
      have f4 := HN.out.out.frozen 4
      have f5 := HN.out.out.frozen 5
      have f6 := HN.out.out.frozen 6
      have f7 := HN.out.out.frozen 7
      go_wp2_with fail
      refine bodyPost_ret (v := .agg (arr 8 fun i => .int .u32 (add32 (h i) (rounds S 64 h i)))) (results_cell (b := w.heap.size + 1) rfl rfl (load_arr (turned_row HN.out.out (fun i => .int .u32 (add32 (h i) (rounds S 64 h i)))) Try.underlying55 info8)) rfl ⟨rfl, turned_old HN.out.old (Nat.le_succ _) _ _ _ _ _ _ _ _⟩

end Go.Proofs.Ytljfjjfckepkdab
