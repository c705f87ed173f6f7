/-
  The program's pieces taken into the eight numbers (layer 3).
-/
import Derived.Test.YtljfjjfckepkdabDpiece
namespace Go.Proofs.Ytljfjjfckepkdab
open Go.RowKit

theorem str_take' (xs : List Int) (n : Nat) : (strOfNums xs).extract 0 n = strOfNums (xs.take n) := by
  rw [str_part, Nat.sub_zero, List.drop_zero]
theorem str_drop (xs : List Int) (a n : Nat) (h : n = xs.length) : (strOfNums xs).extract a n = strOfNums (xs.drop a) := by
  rw [str_part, List.take_of_length_le (by rw [List.length_drop]; omega)]
/-- A row as a range. -/
theorem row_range {w : World} {b : Nat} {t : TypeId} {n : Nat} {f : Nat → Value} (h : w.rowIs b t n f) : w.rangeAt b 0 ((List.range n).map f) := by
  intro j v hv
  have hj : j < n := by simpa using (List.getElem?_eq_some_iff.1 hv).1
  rw [Nat.zero_add, h.cell hj, ← hv]
  simp [hj]
/-- How long a text is. -/
def strLen : Value → Nat
  | .string s => s.size
  | _ => 0
/-- The eight numbers behind c pieces of a text, from the numbers h on. -/
def stateFrom (h : Nat → Int) (B : Nat → Int) : Nat → Nat → Int
  | 0 => h
  | c + 1 => fun i => add32 (stateFrom h B c i) (rounds (sched (fun j => B (64 * c + j)) 64) 64 (stateFrom h B c) i)

/-- Where the pieces' things lie. -/
structure PiecesAt (w W : World) (th : TypeId) (h : Nat → Int) : Prop where
  old : Old w W
  hs : W.rowIs w.heap.size th 8 (fun i => .int .u32 (h i))
  out : W.rowIs (w.heap.size + 1) th 8 (fun _ => .int .u32 0)
theorem pieces_at {w : World} {th : TypeId} {h : Nat → Int} :
    PiecesAt w ((w.alloc (.cells (arr 8 fun i => .int .u32 (h i)) th)).alloc (.cells (arr 8 fun _ => .int .u32 0) th)) th h := by
  have hz := row_new (w.alloc (.cells (arr 8 fun i => .int .u32 (h i)) th)) th 8 (fun _ => .int .u32 0)
  rw [show (w.alloc (.cells (arr 8 fun i => .int .u32 (h i)) th)).heap.size = w.heap.size + 1 by simp] at hz
  exact ⟨((Old.refl w).alloc _).alloc _, (row_new w th 8 _).alloc _, hz⟩
theorem PiecesAt.set {w W : World} {th : TypeId} {h : Nat → Int} (p : PiecesAt w W th h) (g : Nat → Int) : PiecesAt w (W.setRow w.heap.size (arr 8 fun i => .int .u32 (g i))) th g :=
  ⟨p.old.setRow (Nat.le_refl _) _, row_set p.hs _, p.out.of_block (by simp only [World.setRow]; rw [Array.getElem?_modify, if_neg (by omega)])⟩
theorem PiecesAt.after {w W W' : World} {th : TypeId} {h : Nat → Int} (p : PiecesAt w W th h) (ho : Old W W') : PiecesAt w W' th h := ⟨p.old.trans ho, ho.row p.hs, ho.row p.out⟩

theorem getD_drop (xs : List Int) (a j : Nat) : (xs.drop a).getD j 0 = xs.getD (a + j) 0 := by
  rw [List.getD, List.getElem?_drop, List.getD]
theorem getD_take {xs : List Int} {n j : Nat} (h : j < n) : (xs.take n).getD j 0 = xs.getD j 0 := by
  rw [List.getD, List.getElem?_take, if_pos h, List.getD]
/-- The words hang on the first 64 bytes alone. -/
theorem sched_congr {B C : Nat → Int} (h : ∀ j, j < 64 → B j = C j) : ∀ t, t ≤ 64 → sched B t = sched C t
  | 0, _ => rfl
  | t + 1, ht => by
    have ih := sched_congr h t (by omega)
    funext j
    show (if j = t then word B (sched B t) t else sched B t j) = (if j = t then word C (sched C t) t else sched C t j)
    rw [ih]
    have hw : word B (sched C t) t = word C (sched C t) t := by
      unfold word
      split
      · rw [h _ (by omega), h _ (by omega), h _ (by omega), h _ (by omega)]
      · rfl
    rw [hw]

set_option maxRecDepth 100000 in
set_option maxHeartbeats 4000000 in
theorem dpieces_any (h : Nat → Int) (xs : List Int) (m : Nat) (w : World) (hx : Bts xs) (hl : xs.length = 64 * m) (hm : m ≤ 100000) :
    Calls Try.prog 30 #[.agg (arr 8 fun i => .int .u32 (h i)), .string (strOfNums xs)] w fun e w' => e = .returned (.agg (arr 8 fun i => .int .u32 (stateFrom h (fun i => xs.getD i 0) m i))) ∧ Old w w' := by
  have hsz : ∀ xs : List Int, (strOfNums xs).size = xs.length := strOfNums_size
  have hzs : ∀ n f, (arr n f).size = n := arr_size
  have HX : Hid (Bts xs) := hx
  clear hx
  go_enter Try.func30, Try.ntmps30
  go_wp2_with fail
  go_loopw [1] (fun sv wx => ∃ c : Nat, c ≤ m ∧ sv = .string (strOfNums (xs.drop (64 * c))) ∧ Hid (PiecesAt w wx 55 (stateFrom h (fun i => xs.getD i 0) c))) (fun sv _ => strLen sv)
  case atStart => exact ⟨0, Nat.zero_le _, rfl, pieces_at⟩
  case round =>
    obtain ⟨c, hc, rfl, HR⟩ := hrel
    have ld : (xs.drop (64 * c)).length = 64 * (m - c) := by rw [List.length_drop, hl]; omega
    by_cases hlt : c < m
    · have y0 := HR.out.hs.cell (i := 0) (by omega)
      have y1 := HR.out.hs.cell (i := 1) (by omega)
      have y2 := HR.out.hs.cell (i := 2) (by omega)
      have y3 := HR.out.hs.cell (i := 3) (by omega)
      have y4 := HR.out.hs.cell (i := 4) (by omega)
      have y5 := HR.out.hs.cell (i := 5) (by omega)
      have y6 := HR.out.hs.cell (i := 6) (by omega)
      have y7 := HR.out.hs.cell (i := 7) (by omega)
      have HE : Hid (∀ i, stateFrom h (fun i => xs.getD i 0) (c + 1) i = add32 (stateFrom h (fun i => xs.getD i 0) c i) (rounds (sched (fun i => ((xs.drop (64 * c)).take 64).getD i 0) 64) 64 (stateFrom h (fun i => xs.getD i 0) c) i)) := fun i => by
        rw [sched_congr (C := fun j => xs.getD (64 * c + j) 0) (fun j hj => by rw [getD_take hj, getD_drop]) 64 (Nat.le_refl _)]
        rfl
      obtain ⟨g1, hg1⟩ : ∃ g, g = stateFrom h (fun i => xs.getD i 0) (c + 1) := ⟨_, rfl⟩
      rw [← hg1] at HE
      have HG : Hid (g1 = stateFrom h (fun i => xs.getD i 0) (c + 1)) := hg1
      clear hg1
      generalize stateFrom h (fun i => xs.getD i 0) c = g at *
      have HY : Hid (Bts (xs.drop (64 * c))) := fun x hx => HX.out x (List.mem_of_mem_drop hx)
      have HD : Hid (xs.drop (64 * (c + 1)) = (xs.drop (64 * c)).drop 64) := by unfold Hid; rw [List.drop_drop]; rfl
      generalize xs.drop (64 * c) = ys at *
      have hcut : (strOfNums ys).extract 0 64 = strOfNums (ys.take 64) := str_take' ys 64
      have hrest : (strOfNums ys).extract 64 (64 * (m - c)) = strOfNums (ys.drop 64) := str_drop ys 64 _ ld.symm
      have l64 : 64 ≤ ys.length := by omega
      have l64' : (64 : Int) ≤ (ys.length : Int) := by omega
      have l1 : ¬ ((ys.length : Int) < 64) := by omega
      have l3 : ¬ (ys.length < 64) := by omega
      have HP : Hid (∀ wx, Calls Try.prog 44 #[.agg (arr 8 fun i => .int .u32 (g i)), .string (strOfNums (ys.take 64))] wx fun e w' => e = .returned (.agg (arr 8 fun i => .int .u32 (g1 i))) ∧ Old wx w') := fun wx => by
        have := dpiece_any g (ys.take 64) wx (fun x hx => HY.out x (List.mem_of_mem_take hx)) (by rw [List.length_take]; omega)
        rwa [show (arr 8 fun i => Value.int .u32 (g1 i)) = arr 8 fun i => .int .u32 (add32 (g i) (rounds (sched (fun i => (ys.take 64).getD i 0) 64) 64 g i)) from arr_congr fun i _ => by rw [HE.out i]]
      go_upto_region 3 with fail
      go_region_with (go_at_call 44; refine (HP.out _).mono ?_; rintro e w' ⟨rfl, ho⟩; have hst := storeCells_arr (P := Try.prog) (k := .u32) (g := g1) (HR.out.after ((Old.refl _).drew.trans ho)).hs)
      all_goals
        go_wp2_with fail
        go_roundw
        case rel => exact ⟨c + 1, by omega, by rw [HD.out], by rw [← HG.out]; exact (HR.out.after ((Old.refl _).drew.trans ho)).set g1⟩
        case measure => simp [strLen, hsz]; omega
    · have he : c = m := by omega
      subst he
      have l0 : (xs.drop (64 * c)).length = 0 := by omega
      have HK : Hid (PiecesAt w wr 55 (stateFrom h (fun i => xs.getD i 0) c)) := HR
      generalize xs.drop (64 * c) = ys at *
      obtain ⟨g, hg⟩ : ∃ g, g = stateFrom h (fun i => xs.getD i 0) c := ⟨_, rfl⟩
      rw [← hg] at HK
      have HG : Hid (g = stateFrom h (fun i => xs.getD i 0) c) := hg
      clear hg
      go_upto_region 4 with fail
      refine wp_region_lit ?_
      refine wpList_load_row rfl 55 (.tmp 2) rfl w.heap.size rfl _ _ (0, 0) _ (row_arr HK.out.hs) Try.underlying55 rfl (by rw [arr_size]; exact info8) ?_
      refine wpList_store_row rfl 55 _ _ rfl (w.heap.size + 1) (arr 8 fun i => .int .u32 (g i)) rfl rfl _ _ (row_arr HK.out.out) (by rw [arr_size]; exact info8) (by rw [arr_size, arr_size]) (arr_one _) ?_
      refine wpList_nil ?_
      go_wp2_with fail
      refine bodyPost_ret (v := .agg (arr 8 fun i => .int .u32 (g i))) (results_cell (b := w.heap.size + 1) rfl rfl (load_arr (row_set HK.out.out _) Try.underlying55 info8)) rfl ⟨by rw [HG.out], HK.out.old.setRow (Nat.le_succ _) _⟩

end Go.Proofs.Ytljfjjfckepkdab
