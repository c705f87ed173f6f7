/-
  What the proof needs, part 17.
-/
import Derived.Test.YtlnmjbbpenhdbaaGreatKp16
import Derived.Test.YtlnmjbbpenhdbaaGreatKp08
import Derived.Test.YtlnmjbbpenhdbaaGreatKp04
import Derived.Test.YtlnmjbbpenhdbaaGreatKp11
namespace Go.Proofs.YtlnmjbbpenhdbaaGreat
set_option linter.unusedSimpArgs false
set_option linter.unusedVariables false
set_option maxRecDepth 100000
set_option maxHeartbeats 32000000
section
open Go.RowKit
theorem str_take' (xs : List Int) (n : Nat) : (strOfNums xs).extract 0 n = strOfNums (xs.take n) := by
 rw [str_part, Nat.sub_zero, List.drop_zero]
theorem str_drop (xs : List Int) (a n : Nat) (h : n = xs.length) : (strOfNums xs).extract a n = strOfNums (xs.drop a) := by
 rw [str_part, List.take_of_length_le (by rw [List.length_drop]; omega)]
def strLen : Value -> Nat
 | .string s => s.size
 | _ => 0
def stateFrom (h : Nat -> Int) (B : Nat -> Int) : Nat -> Nat -> Int
 | 0 => h
 | c + 1 => fun i => add32 (stateFrom h B c i) (rounds (sched (fun j => B (64 * c + j)) 64) 64 (stateFrom h B c) i)
structure PiecesAt (w W : World) (th : TypeId) (h : Nat -> Int) : Prop where
 old : Old w W
 hs : W.rowIs w.heap.size th 8 (fun i => .int .u32 (h i))
 out : W.rowIs (w.heap.size + 1) th 8 (fun _ => .int .u32 0)
theorem pieces_at {w : World} {th : TypeId} {h : Nat -> Int} :
  PiecesAt w ((w.alloc (.cells (arr 8 fun i => .int .u32 (h i)) th)).alloc (.cells (arr 8 fun _ => .int .u32 0) th)) th h := by
 have hz := row_new (w.alloc (.cells (arr 8 fun i => .int .u32 (h i)) th)) th 8 (fun _ => .int .u32 0)
 rw [show (w.alloc (.cells (arr 8 fun i => .int .u32 (h i)) th)).heap.size = w.heap.size + 1 by simp] at hz
 exact ⟨((Old.refl w).alloc _).alloc _, (row_new w th 8 _).alloc _, hz⟩
theorem PiecesAt.set {w W : World} {th : TypeId} {h : Nat -> Int} (p : PiecesAt w W th h) (g : Nat -> Int) : PiecesAt w (W.setRow w.heap.size (arr 8 fun i => .int .u32 (g i))) th g :=
 ⟨p.old.setRow (Nat.le_refl _) _, row_set p.hs _, p.out.of_block (by simp only [World.setRow]; rw [Array.getElem?_modify, if_neg (by omega)])⟩
theorem PiecesAt.after {w W W' : World} {th : TypeId} {h : Nat -> Int} (p : PiecesAt w W th h) (ho : Old W W') : PiecesAt w W' th h := ⟨p.old.trans ho, ho.row p.hs, ho.row p.out⟩
theorem getD_drop (xs : List Int) (a j : Nat) : (xs.drop a).getD j 0 = xs.getD (a + j) 0 := by
 rw [List.getD, List.getElem?_drop, List.getD]
theorem getD_take {xs : List Int} {n j : Nat} (h : j < n) : (xs.take n).getD j 0 = xs.getD j 0 := by
 rw [List.getD, List.getElem?_take, if_pos h, List.getD]
theorem sched_congr {B C : Nat -> Int} (h : ∀ j, j < 64 -> B j = C j) : ∀ t, t <= 64 -> sched B t = sched C t
 | 0, _ => rfl
 | t + 1, ht => by
  have ih := sched_congr h t (by omega)
  funext j
  show (if j = t then word B (sched B t) t else sched B t j) = (if j = t then word C (sched C t) t else sched C t j)
  rw [ih]
  have hw : word B (sched C t) t = word C (sched C t) t := by
   unfold word
   split
   · rw [h _ (by omega), h _ (by omega), h _ (by omega), h _ (by omega)]
   · rfl
  rw [hw]
theorem dpieces_any (h : Nat -> Int) (xs : List Int) (m : Nat) (w : World) (hx : Bts xs) (hl : xs.length = 64 * m) (hm : m <= 100000) :
  Calls Tryz.prog 155 #[.agg (arr 8 fun i => .int .u32 (h i)), .string (strOfNums xs)] w fun e w' => e = .returned (.agg (arr 8 fun i => .int .u32 (stateFrom h (fun i => xs.getD i 0) m i))) /\ Old w w' := by
 have hsz : ∀ xs : List Int, (strOfNums xs).size = xs.length := strOfNums_size
 have hzs : ∀ n f, (arr n f).size = n := arr_size
 have HX : Hid (Bts xs) := hx
 clear hx
 go_enter Tryz.func155, Tryz.ntmps155
 go_wp2_with fail
 go_loopw [1] (fun sv wx => ∃ c : Nat, c <= m /\ sv = .string (strOfNums (xs.drop (64 * c))) /\ Hid (PiecesAt w wx 164 (stateFrom h (fun i => xs.getD i 0) c))) (fun sv _ => strLen sv)
 case atStart => exact ⟨0, Nat.zero_le _, rfl, pieces_at⟩
 case round =>
  obtain ⟨c, hc, rfl, HR⟩ := hrel
  have ld : (xs.drop (64 * c)).length = 64 * (m - c) := by rw [List.length_drop, hl]; omega
  by_cases hlt : c < m
  · have y0 := HR.out.hs.cell (i := 0) (by omega)
   have y1 := HR.out.hs.cell (i := 1) (by omega)
   have y2 := HR.out.hs.cell (i := 2) (by omega)
   have y3 := HR.out.hs.cell (i := 3) (by omega)
   have y4 := HR.out.hs.cell (i := 4) (by omega)
   have y5 := HR.out.hs.cell (i := 5) (by omega)
   have y6 := HR.out.hs.cell (i := 6) (by omega)
   have y7 := HR.out.hs.cell (i := 7) (by omega)
   have HE : Hid (∀ i, stateFrom h (fun i => xs.getD i 0) (c + 1) i = add32 (stateFrom h (fun i => xs.getD i 0) c i) (rounds (sched (fun i => ((xs.drop (64 * c)).take 64).getD i 0) 64) 64 (stateFrom h (fun i => xs.getD i 0) c) i)) := fun i => by
    rw [sched_congr (C := fun j => xs.getD (64 * c + j) 0) (fun j hj => by rw [getD_take hj, getD_drop]) 64 (Nat.le_refl _)]
    rfl
   obtain ⟨g1, hg1⟩ : ∃ g, g = stateFrom h (fun i => xs.getD i 0) (c + 1) := ⟨_, rfl⟩
   rw [<- hg1] at HE
   have HG : Hid (g1 = stateFrom h (fun i => xs.getD i 0) (c + 1)) := hg1
   clear hg1
   generalize stateFrom h (fun i => xs.getD i 0) c = g at *
   have HY : Hid (Bts (xs.drop (64 * c))) := fun x hx => HX.out x (List.mem_of_mem_drop hx)
   have HD : Hid (xs.drop (64 * (c + 1)) = (xs.drop (64 * c)).drop 64) := by unfold Hid; rw [List.drop_drop]; rfl
   generalize xs.drop (64 * c) = ys at *
   have hcut : (strOfNums ys).extract 0 64 = strOfNums (ys.take 64) := str_take' ys 64
   have hrest : (strOfNums ys).extract 64 (64 * (m - c)) = strOfNums (ys.drop 64) := str_drop ys 64 _ ld.symm
   have l64 : 64 <= ys.length := by omega
   have l64' : (64 : Int) <= (ys.length : Int) := by omega
   have l1 : ¬ ((ys.length : Int) < 64) := by omega
   have l3 : ¬ (ys.length < 64) := by omega
   have HP : Hid (∀ wx, Calls Tryz.prog 161 #[.agg (arr 8 fun i => .int .u32 (g i)), .string (strOfNums (ys.take 64))] wx fun e w' => e = .returned (.agg (arr 8 fun i => .int .u32 (g1 i))) /\ Old wx w') := fun wx => by
    have := dpiece_any g (ys.take 64) wx (fun x hx => HY.out x (List.mem_of_mem_take hx)) (by rw [List.length_take]; omega)
    rwa [show (arr 8 fun i => Value.int .u32 (g1 i)) = arr 8 fun i => .int .u32 (add32 (g i) (rounds (sched (fun i => (ys.take 64).getD i 0) 64) 64 g i)) from arr_congr fun i _ => by rw [HE.out i]]
   go_upto_region 3 with fail
   go_region_with (go_at_call 161; refine (HP.out _).mono ?_; rintro e w' ⟨rfl, ho⟩; have hst := storeCells_arr (P := Tryz.prog) (k := .u32) (g := g1) (HR.out.after ((Old.refl _).drew.trans ho)).hs)
   all_goals
    go_wp2_with fail
    go_roundw
    case rel => exact ⟨c + 1, by omega, by rw [HD.out], by rw [<- HG.out]; exact (HR.out.after ((Old.refl _).drew.trans ho)).set g1⟩
    case measure => simp [strLen, hsz]; omega
  · have he : c = m := by omega
   subst he
   have l0 : (xs.drop (64 * c)).length = 0 := by omega
   have HK : Hid (PiecesAt w wr 164 (stateFrom h (fun i => xs.getD i 0) c)) := HR
   generalize xs.drop (64 * c) = ys at *
   obtain ⟨g, hg⟩ : ∃ g, g = stateFrom h (fun i => xs.getD i 0) c := ⟨_, rfl⟩
   rw [<- hg] at HK
   have HG : Hid (g = stateFrom h (fun i => xs.getD i 0) c) := hg
   clear hg
   go_upto_region 4 with fail
   refine wp_region_lit ?_
   refine wpList_load_row rfl 164 (.tmp 2) rfl w.heap.size rfl _ _ (0, 0) _ (row_arr HK.out.hs) Tryz.underlying164 rfl (by rw [arr_size]; exact info8) ?_
   refine wpList_store_row rfl 164 _ _ rfl (w.heap.size + 1) (arr 8 fun i => .int .u32 (g i)) rfl rfl _ _ (row_arr HK.out.out) (by rw [arr_size]; exact info8) (by rw [arr_size, arr_size]) (arr_one _) ?_
   refine wpList_nil ?_
   go_wp2_with fail
   refine bodyPost_ret (v := .agg (arr 8 fun i => .int .u32 (g i))) (results_cell (b := w.heap.size + 1) rfl rfl (load_arr (row_set HK.out.out _) Tryz.underlying164 info8)) rfl ⟨by rw [HG.out], HK.out.old.setRow (Nat.le_succ _) _⟩
end
section
open Go.RowKit
theorem dending_any (n : Nat) (w : World) (hn : n <= 1000000) :
  Calls Tryz.prog 157 #[.int .u64 (n : Int)] w fun e w' => e = .returned (.string (strOfNums (endL n))) /\ Old w w' := by
 have hadd : ∀ xs ys : List Int, strOfNums xs ++ strOfNums ys = strOfNums (xs ++ ys) := str_add
 have hsz : ∀ xs : List Int, (strOfNums xs).size = xs.length := strOfNums_size
 have h128 : (ByteArray.mk #[128]) = strOfNums [128] := rfl
 have z8 := bytesL_len (8 * (n : Int)) 8
 have hz : (119 - (n : Int) % 64) % 64 = ((zeros n : Nat) : Int) := by unfold zeros; omega
 have hz2 := zeros_lt n
 have HE : Hid (endL n = [128] ++ List.replicate (zeros n) 0 ++ bytesL (8 * (n : Int)) 8) := by unfold Hid endL; rw [Int.mul_comm]
 go_enter Tryz.func157, Tryz.ntmps157
 go_upto_region 2 with fail
 go_wp2_with (first
  | (go_at_call 162; refine (drepeat_any (zeros n) _ (by omega)).mono ?_; rintro e w1 ⟨rfl, ho1⟩)
  | (go_at_call 154; refine (dbytes_any _ 8 _ (by omega) (by omega)).mono ?_; rintro e w2 ⟨rfl, ho2⟩))
 go_ret
 exact ⟨by rw [HE.out]; rfl, ho1.trans ho2⟩
theorem stateFrom_congr {h B C : Nat -> Int} : ∀ m, (∀ j, j < 64 * m -> B j = C j) -> stateFrom h B m = stateFrom h C m
 | 0, _ => rfl
 | m + 1, hb => by
  have ih := stateFrom_congr (h := h) m fun j hj => hb j (by omega)
  funext i
  show add32 (stateFrom h B m i) (rounds (sched (fun j => B (64 * m + j)) 64) 64 (stateFrom h B m) i) = add32 (stateFrom h C m i) (rounds (sched (fun j => C (64 * m + j)) 64) 64 (stateFrom h C m) i)
  rw [ih, sched_congr (C := fun j => C (64 * m + j)) (fun j hj => hb _ (by omega)) 64 (Nat.le_refl _)]
theorem stateFrom_add (h B : Nat -> Int) (m : Nat) : ∀ k, stateFrom (stateFrom h B m) (fun i => B (64 * m + i)) k = stateFrom h B (m + k)
 | 0 => rfl
 | k + 1 => by
  have ih := stateFrom_add h B m k
  funext i
  show add32 (stateFrom (stateFrom h B m) (fun i => B (64 * m + i)) k i) (rounds (sched (fun j => B (64 * m + (64 * k + j))) 64) 64 (stateFrom (stateFrom h B m) (fun i => B (64 * m + i)) k) i) = add32 (stateFrom h B (m + k) i) (rounds (sched (fun j => B (64 * (m + k) + j)) 64) 64 (stateFrom h B (m + k)) i)
  rw [ih]
  have e : (fun j => B (64 * m + (64 * k + j))) = fun j => B (64 * (m + k) + j) := funext fun j => congrArg B (by omega)
  rw [e]
theorem state_from (B : Nat -> Int) : ∀ c, state B c = stateFrom hS B c
 | 0 => rfl
 | c + 1 => by
  funext i
  show add32 (state B c i) (rounds (sched (fun j => B (64 * c + j)) 64) 64 (state B c) i) = add32 (stateFrom hS B c i) (rounds (sched (fun j => B (64 * c + j)) 64) 64 (stateFrom hS B c) i)
  rw [state_from B c]
theorem padL_end (xs : List Int) : padL xs = xs ++ endL xs.length := by
 unfold padL endL
 simp only [List.append_assoc]
theorem sum_parts (xs : List Int) (m k : Nat) (hm : 64 * m <= xs.length) (hk : m + k = pieces xs.length) :
  stateFrom (stateFrom hS (fun i => (xs.take (64 * m)).getD i 0) m) (fun i => (xs.drop (64 * m) ++ endL xs.length).getD i 0) k = state (fun i => (padL xs).getD i 0) (pieces xs.length) := by
 rw [state_from, <- hk, <- stateFrom_add]
 have e1 : stateFrom hS (fun i => (xs.take (64 * m)).getD i 0) m = stateFrom hS (fun i => (padL xs).getD i 0) m := stateFrom_congr m fun j hj => by
  show (xs.take (64 * m)).getD j 0 = (padL xs).getD j 0
  rw [getD_take hj, padL_end, List.getD, List.getD, List.getElem?_append_left (by omega)]
 have e2 : (fun i => (xs.drop (64 * m) ++ endL xs.length).getD i 0) = fun i => (padL xs).getD (64 * m + i) 0 := by
  funext i
  rw [padL_end, <- List.drop_append_of_le_length hm, getD_drop]
 rw [e1, e2]
end
section
open Go.RowKit
theorem index_arr (g : Nat -> Int) (i : Nat) (wx : World) (h : i < 8) : (Instr.index 164 (.agg (arr 8 fun i => .int .u32 (g i))) (.int .i64 (i : Int))).run Tryz.prog wx = .ok (.int .u32 (g i)) wx := by
 have ha : (arr 8 fun i => Value.int .u32 (g i))[i]? = some (.int .u32 (g i)) := arr_at h
 have hu := run_underlying (P := Tryz.prog) Tryz.underlying164 wx
 have hb : (0 : Int) <= (i : Int) /\ (i : Int) < ((8 : Nat) : Int) := by omega
 have h1 := Tryz.sizeOf163 wx
 simp [Instr.index, asIntOf, hu, h, h1, part, ha]
theorem endL_bd (n : Nat) : Bts (endL n) := by
 intro x hx
 simp only [endL, List.mem_append, List.mem_singleton, List.mem_replicate] at hx
 rcases hx with (rfl | ⟨_, rfl⟩) | hx
 · omega
 · omega
 · exact bytesL_bd _ _ x hx
theorem row_after {wx w' : World} {t : TypeId} (h : Old (wx.alloc (.cells (arr 8 fun _ => .int .u32 0) t)) w') : w'.rowIs wx.heap.size t 8 (fun _ => .int .u32 0) := h.row (row_new wx t 8 _)
theorem store_after {P : Program} {wx w' : World} {t : TypeId} {g : Nat -> Int} (h : Old (wx.alloc (.cells (arr 8 fun _ => .int .u32 0) t)) w') : (storeCells ⟨wx.heap.size, 0, none⟩ (arr 8 fun i => .int .u32 (g i)).toList 0).run P w' = .ok () (w'.setRow wx.heap.size (arr 8 fun i => .int .u32 (g i))) := storeCells_arr (row_after h)
theorem sum_last {w w2 : World} {t : TypeId} {g : Nat -> Int} (h : Old w w2) : ∃ b, Value.pointer (some ⟨w2.heap.size, 0, none⟩) = .pointer (some ⟨b, 0, none⟩) /\ Hid (Old w (w2.alloc (.cells (arr 8 fun i => .int .u32 (g i)) t)) /\ w.heap.size <= b /\ (w2.alloc (.cells (arr 8 fun i => .int .u32 (g i)) t)).rowIs b t 8 (fun i => .int .u32 (g i))) :=
 ⟨_, rfl, h.alloc _, h.size, row_new _ _ _ _⟩
theorem sum_early {w wx w2 : World} {t : TypeId} {g : Nat -> Int} (h1 : Old w wx) (h2 : Old (wx.alloc (.cells (arr 8 fun _ => .int .u32 0) t)) w2) : ∃ b, Value.pointer (some ⟨wx.heap.size, 0, none⟩) = .pointer (some ⟨b, 0, none⟩) /\ Hid (Old w (w2.setRow wx.heap.size (arr 8 fun i => .int .u32 (g i))) /\ w.heap.size <= b /\ (w2.setRow wx.heap.size (arr 8 fun i => .int .u32 (g i))).rowIs b t 8 (fun i => .int .u32 (g i))) :=
 ⟨_, rfl, ((h1.alloc _).trans h2).setRow h1.size _, h1.size, row_set (row_after h2) _⟩
theorem dsum_any (xs : List Int) (w : World) (hx : Bts xs) (hl : xs.length <= 1000000) :
  Calls Tryz.prog 144 #[.string (strOfNums xs)] w fun e w' => e = .returned (.string (strOfNums (sumL xs))) /\ Old w w' := by
 obtain ⟨m, hm⟩ : ∃ m, m = xs.length / 64 := ⟨_, rfl⟩
 have hzs : ∀ n f, (arr n f).size = n := arr_size
 have hadd : ∀ xs ys : List Int, strOfNums xs ++ strOfNums ys = strOfNums (xs ++ ys) := str_add
 have hsz : ∀ xs : List Int, (strOfNums xs).size = xs.length := strOfNums_size
 have hW : (xs.length : Int) - (xs.length : Int) % 64 = 64 * (m : Int) := by omega
 have hW0 : (0 : Int) <= 64 * (m : Int) := by omega
 have hW1 : 64 * (m : Int) <= (xs.length : Int) := by omega
 have hT : (64 * (m : Int)).toNat = 64 * m := by omega
 have HM : Hid (m = xs.length / 64) := hm
 clear hm
 have HX : Hid (Bts xs) := hx
 clear hx
 obtain ⟨g1, hg1⟩ : ∃ g, g = stateFrom hS (fun i => (xs.take (64 * m)).getD i 0) m := ⟨_, rfl⟩
 have H1 : Hid (∀ wx, Calls Tryz.prog 155 #[.agg (arr 8 fun i => .int .u32 (hS i)), .string (strOfNums (xs.take (64 * m)))] wx fun e w' => e = .returned (.agg (arr 8 fun i => .int .u32 (g1 i))) /\ Old wx w') := fun wx => by
  rw [hg1]
  exact dpieces_any hS (xs.take (64 * m)) m wx (fun x hx => HX.out x (List.mem_of_mem_take hx)) (by rw [List.length_take]; omega) (by omega)
 have HG : Hid (g1 = stateFrom hS (fun i => (xs.take (64 * m)).getD i 0) m) := hg1
 clear hg1
 have hcut : (strOfNums xs).extract 0 (64 * m) = strOfNums (xs.take (64 * m)) := str_take' xs (64 * m)
 have hst : ∀ (wx : World) (c : Array Value), c.size = 8 -> (storeCells ⟨wx.heap.size, 0, none⟩ (arr 8 fun i => .int .u32 (g1 i)).toList 0).run Tryz.prog (wx.alloc (.cells c 164)) = .ok () (wx.alloc (.cells (arr 8 fun i => .int .u32 (g1 i)) 164)) := fun wx c hc => run_storeCells_new wx _ c _ (by rw [arr_size]; exact info8) (by rw [arr_size]; exact hc) (arr_one g1)
 go_enter Tryz.func144, Tryz.ntmps144
 go_upto_region 2 with fail
 go_cut [4] (fun pv wx => ∃ b, pv = .pointer (some ⟨b, 0, none⟩) /\ Hid (Old w wx /\ w.heap.size <= b /\ wx.rowIs b 164 8 (fun i => .int .u32 (g1 i))))
 case first =>
  go_region_with (first
   | (go_at_call 156; refine (dfirst_any _).mono ?_; rintro e w1 ⟨rfl, ho1⟩)
   | (go_at_call 155; refine (H1.out _).mono ?_; rintro e w2 ⟨rfl, ho2⟩; (try have hs1 := store_after (P := Tryz.prog) (g := g1) ho2); (try have hs2 : (storeCells ⟨w.heap.size, 0, none⟩ (arr 8 fun i => .int .u32 (g1 i)).toList 0).run Tryz.prog w2 = .ok () (w2.setRow w.heap.size (arr 8 fun i => .int .u32 (g1 i))) := store_after (wx := w.drew) (ho1.trans ho2))))
  all_goals
   go_wp2_with fail
   go_meet
   case rel => first
    | exact sum_last (((Old.refl _).drew.trans ho1).trans ho2)
    | exact sum_early ((Old.refl _).drew.trans ho1) ho2
    | exact sum_early (wx := w.drew) (Old.refl _).drew (ho1.trans ho2)
 obtain ⟨b, rfl, HB⟩ := hcut
 clear hst hcut
 obtain ⟨g2, hg2⟩ : ∃ g, g = state (fun i => (padL xs).getD i 0) (pieces xs.length) := ⟨_, rfl⟩
 have H2 : Hid (∀ wx, Calls Tryz.prog 155 #[.agg (arr 8 fun i => .int .u32 (g1 i)), .string (strOfNums (xs.drop (64 * m) ++ endL xs.length))] wx fun e w' => e = .returned (.agg (arr 8 fun i => .int .u32 (g2 i))) /\ Old wx w') := fun wx => by
  have hp := pad_pieces xs.length
  have hm := HM.out
  have lz := zeros_lt xs.length
  rw [hg2, <- sum_parts xs m (pieces xs.length - m) (by omega) (by omega), <- HG.out]
  refine dpieces_any g1 (xs.drop (64 * m) ++ endL xs.length) (pieces xs.length - m) wx (bts_app (fun x hx => HX.out x (List.mem_of_mem_drop hx)) ?_) ?_ (by omega)
  · exact endL_bd _
  · rw [List.length_append, List.length_drop, endL_len]
   omega
 have HS : Hid (sumL xs = outL g2 8 /\ ∀ i, 0 <= g2 i /\ g2 i <= 4294967295) := by
  rw [hg2]
  exact ⟨rfl, state_bd _ _⟩
 clear hg2
 have hrest : (strOfNums xs).extract (64 * m) xs.length = strOfNums (xs.drop (64 * m)) := str_drop xs (64 * m) _ rfl
 have ld : (xs.drop (64 * m)).length = xs.length - 64 * m := List.length_drop
 have le := endL_len xs.length
 have lz := zeros_lt xs.length
 have y0 := HB.out.2.2.cell (i := 0) (by omega)
 have y1 := HB.out.2.2.cell (i := 1) (by omega)
 have y2 := HB.out.2.2.cell (i := 2) (by omega)
 have y3 := HB.out.2.2.cell (i := 3) (by omega)
 have y4 := HB.out.2.2.cell (i := 4) (by omega)
 have y5 := HB.out.2.2.cell (i := 5) (by omega)
 have y6 := HB.out.2.2.cell (i := 6) (by omega)
 have y7 := HB.out.2.2.cell (i := 7) (by omega)
 have hw : IntKind.u64.wrap (xs.length : Int) = (xs.length : Int) := by rw [IntKind.wrap_u64]; omega
 go_upto_region 3 with fail
 go_cut [4] (fun pv wx => pv = .pointer (some ⟨b, 0, none⟩) /\ Hid (Old w wx /\ wx.rowIs b 164 8 (fun i => .int .u32 (g2 i))))
 case first =>
  go_region_with (first
   | (go_at_call 157; refine (dending_any xs.length _ hl).mono ?_; rintro e w1 ⟨rfl, ho1⟩; have z0 := ho1.cellOf y0; have z1 := ho1.cellOf y1; have z2 := ho1.cellOf y2; have z3 := ho1.cellOf y3; have z4 := ho1.cellOf y4; have z5 := ho1.cellOf y5; have z6 := ho1.cellOf y6; have z7 := ho1.cellOf y7)
   | (go_at_call 155; refine (H2.out _).mono ?_; rintro e w2 ⟨rfl, ho2⟩; have hs1 := storeCells_arr (P := Tryz.prog) (k := .u32) (g := g2) ((ho1.trans ho2).row HB.out.2.2)))
  all_goals
   go_wp2_with fail
   go_meet
   case rel => exact ⟨rfl, (HB.out.1.drew.trans (ho1.trans ho2)).setRow HB.out.2.1 _, row_set ((ho1.trans ho2).row HB.out.2.2) _⟩
 obtain ⟨rfl, HC⟩ := hcut
 clear y0 y1 y2 y3 y4 y5 y6 y7 hrest ld le lz hw hW hW0 hW1 hT
 obtain ⟨W, hW⟩ : ∃ x, x = wc := ⟨_, rfl⟩
 subst hW
 have HN : Hid (b < W.heap.size) := HC.out.2.lt
 have HL : Hid (W.heap.size <= (W.alloc (.cells #[.pointer none, .slice none 0 0] 155)).heap.size /\ Old W (W.alloc (.cells #[.pointer none, .slice none 0 0] 155)) /\ Bld W.heap.size W.heap.size [] (W.alloc (.cells #[.pointer none, .slice none 0 0] 155)) /\ (W.alloc (.cells #[.pointer none, .slice none 0 0] 155)).rowIs b 164 8 (fun i => .int .u32 (g2 i))) := ⟨by simp, (Old.refl _).alloc _, Bld.new W, HC.out.2.alloc _⟩
 go_upto_region 5 with fail
 refine wp_region_lit ?_
 refine wpList_load_row rfl 164 (.tmp 4) rfl b rfl _ _ (0, 0) _ (row_arr HL.out.2.2.2) Tryz.underlying164 rfl (by rw [arr_size]; exact info8) ?_
 go_wp2_with fail
 go_loopw [30] (fun iv wx => ∃ i : Nat, iv = .int .i64 (i : Int) /\ i <= 8 /\ Hid (Old W wx /\ Bld W.heap.size W.heap.size (outL g2 i) wx)) (fun iv _ => 8 - (intOf iv).toNat)
 case atStart => exact ⟨0, rfl, Nat.zero_le _, HL.out.2.1, HL.out.2.2.1⟩
 case round =>
  obtain ⟨i, rfl, hi, HR⟩ := hrel
  by_cases hlt : i < 8
  · have ha := fun wx => index_arr g2 i wx hlt
   obtain ⟨e0, e1⟩ := HS.out.2 i
   have i8 : (i : Int) < 8 := by omega
   have i0 : (0 : Int) <= (i : Int) := by omega
   have z1 := outL_len g2 i
   have z2 := bytesL_len (g2 i) 4
   go_wp2_with (first
    | (go_at_call 154; refine (dbytes_any _ 4 _ (by omega) (by omega)).mono ?_; rintro e w1 ⟨rfl, ho1⟩)
    | (go_at_call 142; refine (bld_write W.heap.size W.heap.size (outL g2 i) (bytesL (g2 i) 4) _ (HR.out.2.old ho1) (by omega) (Nat.le_trans HR.out.1.size ho1.size)).mono ?_; rintro e w2 ⟨rfl, hb2, hbel⟩))
   go_roundw
   case rel => exact ⟨i + 1, by go_num, by omega, (HR.out.1.trans ho1).thenBelow (Nat.le_refl _) hbel, hb2⟩
   case measure => simp [intOf]; omega
  · have he : i = 8 := by omega
   subst he
   go_wp2_with (go_at_call 145; refine (bld_string W.heap.size W.heap.size (outL g2 8) _ HR.out.2 HR.out.1.size).mono ?_; rintro e w1 ⟨rfl, hbel⟩)
   go_ret
   exact ⟨by rw [HS.out.1]; rfl, HC.out.1.trans (HR.out.1.thenBelow (Nat.le_refl _) hbel)⟩
end
section
open Go.RowKit
def BytesIn (w : World) (g n : Nat) (f : Nat -> Int) : Prop := ∀ j, j < n -> w.cell? ⟨g, j, none⟩ = some (.int .u8 (f j)) /\ w.frozen? ⟨g, j, none⟩ = false
end
section
open Go.RowKit
theorem dlen_any (xs : List Int) (w : World) (hl : xs.length <= 1000000) :
  Calls Tryz.prog 143 #[.string (strOfNums xs)] w fun e w' => e = .returned (.string (strOfNums (bytesL (xs.length : Int) 8 ++ xs))) /\ Old w w' := by
 have hadd : ∀ xs ys : List Int, strOfNums xs ++ strOfNums ys = strOfNums (xs ++ ys) := str_add
 have hsz : ∀ xs : List Int, (strOfNums xs).size = xs.length := strOfNums_size
 have z2 := bytesL_len (xs.length : Int) 8
 have hw : IntKind.u64.wrap (xs.length : Int) = (xs.length : Int) := by rw [IntKind.wrap_u64]; omega
 go_enter Tryz.func143, Tryz.ntmps143
 go_wp2_with (go_at_call 154; refine (dbytes_any _ 8 _ (by omega) (by omega)).mono ?_; rintro e w1 ⟨rfl, ho1⟩)
 go_ret
 exact ⟨rfl, ho1⟩
theorem valP_congr {X Y : Nat -> Int} : ∀ i, (∀ j, j < i -> X j = Y j) -> valP X i = valP Y i
 | 0, _ => rfl
 | i + 1, h => by
  show valP X i * 256 + X i = valP Y i * 256 + Y i
  rw [valP_congr i fun j hj => h j (by omega), h i (by omega)]
theorem valP_add (X : Nat -> Int) (m : Nat) : ∀ k, valP X (m + k) = valP X m * 256 ^ k + valP (fun i => X (m + i)) k
 | 0 => by show valP X m = valP X m * 256 ^ 0 + 0; simp
 | k + 1 => by
  show valP X (m + k) * 256 + X (m + k) = valP X m * 256 ^ (k + 1) + (valP (fun i => X (m + i)) k * 256 + X (m + k))
  rw [valP_add X m k, Int.pow_succ, Int.add_mul, Int.mul_assoc]
  omega
theorem numF_val (X : Nat -> Int) (q : Int) (hq : okM q = true) : ∀ i, numF X q i = valP X i % q
 | 0 => by show (0 : Int) = 0 % q; simp
 | i + 1 => by
  show addI (mulI (numF X q i) 256 q) (X i) q = (valP X i * 256 + X i) % q
  rw [numF_val X q hq i, addI_yes hq, mulI_yes hq]
  exact cong_add (by rw [mod_self]; exact cong_mul (mod_self _ _) rfl) rfl
theorem number_halves (X : Nat -> Int) (q : Int) : addI (mulI (valP X 8) (powI 2 64 q) q) (valP (fun i => X (8 + i)) 8) q = if okM q then numF X q 16 else 0 := by
 cases hq : okM q
 · rw [addI_no hq]; rfl
 · rw [if_pos rfl, numF_val X q hq 16, show (16 : Nat) = 8 + 8 from rfl, valP_add X 8 8, addI_yes hq, mulI_yes hq, powI_yes hq]
  refine cong_add ?_ rfl
  rw [mod_self]
  exact cong_mul rfl (mod_self _ _)
theorem dhalf_any (h : List Int) (a : Nat) (w : World) (hb : Bts h) (ha : a + 8 <= h.length) :
  Calls Tryz.prog 146 #[.string (strOfNums ((h.drop a).take 8))] w fun e w' => e = .returned (.int .u64 (valP (fun i => h.getD (a + i) 0) 8)) /\ w' = w := by
 have hl : ((h.drop a).take 8).length = 8 := by rw [List.length_take, List.length_drop]; omega
 have := dnum_any ((h.drop a).take 8) w (fun x hx => hb x (List.mem_of_mem_drop (List.mem_of_mem_take hx))) (by omega)
 rw [hl] at this
 rwa [valP_congr 8 (X := fun i => ((h.drop a).take 8).getD i 0) (Y := fun i => h.getD (a + i) 0) fun j hj => by rw [getD_take hj, getD_drop]] at this
theorem valP_bd8 {X : Nat -> Int} (h : ∀ i, 0 <= X i /\ X i <= 255) : 0 <= valP X 8 /\ valP X 8 <= 18446744073709551615 := by
 have := valP_bd h 8
 have e : (256 : Int) ^ 8 = 18446744073709551616 := by decide
 rw [e] at this
 omega
theorem dnumber_any (label : List Int) (a : Option Addr) (n cap : Nat) (S : Nat -> List Int) (q : Int) (w : World) (hl : Bts label) (hin : StrsIn w a n S) (hn : n <= 1000) (hlen : (numL label S n).length <= 1000000) :
  Calls Tryz.prog 128 #[.string (strOfNums label), .slice a n cap, .int .u64 q] w fun e w' => e = .returned (.int .u64 (numberI label S n q)) /\ Old w w' := by
 have HB : Hid (Bts label /\ StrsIn w a n S) := ⟨hl, hin⟩
 clear hl hin
 have ll : (numL label S 0).length <= 1000000 := Nat.le_trans (numL_mono label S n (Nat.zero_le _)) hlen
 have ll' : (numL label S 0).length = 8 + label.length := by show (bytesL label.length 8 ++ label).length = _; rw [List.length_append, bytesL_len]
 have H0 : Hid (numL label S 0 = bytesL (label.length : Int) 8 ++ label) := rfl
 rw [ll'] at ll
 have HN := Bld.new w
 have HW : Hid (∀ wx, Old w wx -> Bld w.heap.size w.heap.size [] wx -> Calls Tryz.prog 142 #[.pointer (some ⟨w.heap.size, 0, none⟩), .string (strOfNums (bytesL (label.length : Int) 8 ++ label))] wx fun e w' => (∃ v, e = .returned (.tuple #[v, .nilIface])) /\ Bld w.heap.size w.heap.size (numL label S 0) w' /\ Below w.heap.size wx w') := fun wx ho hb => by
  refine (bld_write w.heap.size w.heap.size [] (bytesL (label.length : Int) 8 ++ label) wx hb (by rw [List.length_append, bytesL_len]; simp; omega) ho.size).mono ?_
  rintro e w' ⟨rfl, h1, h2⟩
  exact ⟨⟨_, rfl⟩, h1, h2⟩
 have HN : Hid (Bld w.heap.size w.heap.size [] (w.alloc (.cells #[.pointer none, .slice none 0 0] 155)) /\ Old w (w.alloc (.cells #[.pointer none, .slice none 0 0] 155))) := ⟨HN, (Old.refl w).alloc _⟩
 go_enter Tryz.func128, Tryz.ntmps128
 go_wp2_with (first
  | (go_at_call 143; refine (dlen_any label _ (by omega)).mono ?_; rintro e w1 ⟨rfl, ho1⟩)
  | (go_at_call 142; refine (HW.out _ (HN.out.2.trans ho1) (HN.out.1.old ho1)).mono ?_; rintro e w2 ⟨⟨v, rfl⟩, hb2, hbel⟩))
 have HS : Hid (Old w w2 /\ Bld w.heap.size w.heap.size (numL label S 0) w2) := ⟨(HN.out.2.trans ho1).thenBelow (Nat.le_refl _) hbel, hb2⟩
 clear ho1 hbel hb2 HN HW
 go_loopw [18] (fun iv wx => ∃ i : Nat, iv = .int .i64 (i : Int) /\ i <= n /\ Hid (Old w wx /\ Bld w.heap.size w.heap.size (numL label S i) wx)) (fun iv _ => n - (intOf iv).toNat)
 case atStart => exact ⟨0, rfl, Nat.zero_le _, HS⟩
 case round =>
  obtain ⟨i, rfl, hi, HR⟩ := hrel
  by_cases hlt : i < n
  · have hm := numL_mono label S n (show i + 1 <= n by omega)
   rw [numL_succ_len] at hm
   rcases HB.out.2.old HR.out.1 with h0 | ⟨b, off, rfl, hb, hr⟩
   · omega
   have cp := (hr i hlt).1
   clear hr hb
   have HE : Hid (numL label S (i + 1) = numL label S i ++ (bytesL ((S i).length : Int) 8 ++ S i)) := rfl
   have HW : Hid (∀ wx, Old wr wx -> Calls Tryz.prog 142 #[.pointer (some ⟨w.heap.size, 0, none⟩), .string (strOfNums (bytesL ((S i).length : Int) 8 ++ S i))] wx fun e w' => (∃ v, e = .returned (.tuple #[v, .nilIface])) /\ Bld w.heap.size w.heap.size (numL label S (i + 1)) w' /\ Below w.heap.size wx w') := fun wx ho => by
    refine (bld_write w.heap.size w.heap.size (numL label S i) (bytesL ((S i).length : Int) 8 ++ S i) wx (HR.out.2.old ho) (by rw [List.length_append, bytesL_len]; omega) (Nat.le_trans HR.out.1.size ho.size)).mono ?_
    rintro e w' ⟨rfl, h1, h2⟩
    exact ⟨⟨_, rfl⟩, by rw [HE.out]; exact h1, h2⟩
   have hl2 : (S i).length <= 1000000 := by omega
   clear hm
   go_wp2_with (first
    | (go_at_call 143; refine (dlen_any (S i) _ hl2).mono ?_; rintro e w1 ⟨rfl, ho1⟩)
    | (go_at_call 142; refine (HW.out _ ho1).mono ?_; rintro e w2 ⟨⟨v, rfl⟩, hb2, hbel⟩))
   go_roundw
   case rel => exact ⟨i + 1, by go_num, by omega, (HR.out.1.trans ho1).thenBelow (Nat.le_refl _) hbel, hb2⟩
   case measure => simp [intOf]; omega
  · have he : i = n := by omega
   subst he
   have HC : Hid (∀ wx, Calls Tryz.prog 144 #[.string (strOfNums (numL label S i))] wx fun e w' => e = .returned (.string (strOfNums (sumL (numL label S i)))) /\ Old wx w') := fun wx => dsum_any _ wx (numL_bd HB.out.1 _ fun j hj => HB.out.2.bts hj) hlen
   have HG : Hid (Bts (sumL (numL label S i)) /\ (sumL (numL label S i)).length = 32) := ⟨sumL_bd _, sumL_len _⟩
   have HF : Hid (numberI label S i q = if okM q then numF (fun j => (sumL (numL label S i)).getD j 0) q 16 else 0) := rfl
   generalize sumL (numL label S i) = h at *
   have zh := HG.out.2
   have hsz : (strOfNums h).size = 32 := by rw [strOfNums_size]; exact zh
   have hc1 : (strOfNums h).extract 0 8 = strOfNums ((h.drop 0).take 8) := str_part h 0 8
   have hc2 : (strOfNums h).extract 8 16 = strOfNums ((h.drop 8).take 8) := str_part h 8 16
   have A1 := fun wx => dhalf_any h 0 wx HG.out.1 (by omega)
   have A2 := fun wx => dhalf_any h 8 wx HG.out.1 (by omega)
   have e1 : valP (fun i => h.getD (0 + i) 0) 8 = valP (fun i => h.getD i 0) 8 := valP_congr 8 fun j _ => by rw [Nat.zero_add]
   have hv := number_halves (fun i => h.getD i 0) q
   obtain ⟨b0, b1⟩ := valP_bd8 (getD_bd HG.out.1)
   obtain ⟨d0, d1⟩ := valP_bd8 (X := fun i => h.getD (8 + i) 0) (fun i => getD_bd HG.out.1 (8 + i))
   rw [e1] at A1
   have HV : Hid (addI (mulI (valP (fun i => h.getD i 0) 8) (powI 2 64 q) q) (valP (fun i => h.getD (8 + i) 0) 8) q = numberI label S i q) := by rw [HF.out]; exact hv
   clear hv
   generalize valP (fun i => h.getD i 0) 8 = x at *
   generalize valP (fun i => h.getD (8 + i) 0) 8 = y at *
   generalize (h.drop 0).take 8 = h1 at *
   generalize (h.drop 8).take 8 = h2 at *
   have A1 : Hid (∀ wx, Calls Tryz.prog 146 #[.string (strOfNums h1)] wx fun e w' => e = .returned (.int .u64 x) /\ w' = wx) := A1
   have A2 : Hid (∀ wx, Calls Tryz.prog 146 #[.string (strOfNums h2)] wx fun e w' => e = .returned (.int .u64 y) /\ w' = wx) := A2
   clear e1
   obtain ⟨p0, p1⟩ := powI_bd 2 64 q
   obtain ⟨m0, m1⟩ := mulI_bd x (powI 2 64 q) q
   have CP : Hid (∀ wx, Calls Tryz.prog 61 #[.int .u64 2, .int .u64 64, .int .u64 q] wx fun e w' => e = .returned (.int .u64 (powI 2 64 q)) /\ ∃ n, w' = wx.drewN n) := fun wx => pow_any 2 64 q wx (by decide) (by decide) (by decide) (by decide)
   generalize powI 2 64 q = p at *
   have CM : Hid (∀ wx, Calls Tryz.prog 72 #[.int .u64 x, .int .u64 p, .int .u64 q] wx fun e w' => e = .returned (.int .u64 (mulI x p q)) /\ ∃ n, w' = wx.drewN n) := fun wx => mul_any x p q wx b0 b1 p0 (by omega)
   generalize mulI x p q = z at *
   have CA : Hid (∀ wx, Calls Tryz.prog 71 #[.int .u64 z, .int .u64 y, .int .u64 q] wx fun e w' => e = .returned (.int .u64 (addI z y q)) /\ ∃ n, w' = wx.drewN n) := fun wx => add_any z y q wx m0 (by omega) d0 d1
   generalize addI z y q = r at *
   go_wp2_with (first
    | (go_at_call 145; refine (bld_string w.heap.size w.heap.size _ _ HR.out.2 HR.out.1.size).mono ?_; rintro e w3 ⟨rfl, hbel⟩)
    | (go_at_call 144; refine (HC.out _).mono ?_; rintro e w4 ⟨rfl, ho4⟩))
   have HO : Hid (Old w w4) := (HR.out.1.thenBelow (Nat.le_refl _) hbel).trans ho4
   clear ho4 hbel
   go_quiet (first
    | (go_at_call_of 146 (Value.string (strOfNums h1)); exact Calls.quiet_of_same (A1.out _))
    | (go_at_call_of 146 (Value.string (strOfNums h2)); exact Calls.quiet_of_same (A2.out _)))
   go_wp2_with (first
    | (go_at_call 61; refine (CP.out _).mono ?_; rintro e w5 ⟨rfl, n5, hw5⟩)
    | (go_at_call 72; refine (CM.out _).mono ?_; rintro e w6 ⟨rfl, n6, hw6⟩)
    | (go_at_call 71; refine (CA.out _).mono ?_; rintro e w7 ⟨rfl, n7, hw7⟩))
   go_ret
   refine ⟨by rw [<- HV.out]; rfl, ?_⟩
   first
    | exact HO.out.drewN _
    | (rw [hw7, hw6, hw5]; exact (((HO.out.drewN _).drewN n5).drewN n6).drewN n7)
end
section
open Go.RowKit
theorem pchal_any (label : List Int) (P Q G H : Int) (a : Option Addr) (n cap : Nat) (bt : Option Addr) (nt ct : Nat) (T : Nat -> Int) (bb : Option Addr) (nb cb : Nat) (BA : Nat -> Option Addr) (L C : Nat -> Nat) (B : Nat -> Nat -> Int) (bk : Option Addr) (nk ck : Nat) (K : Nat -> Int) (w : World) (h4 : Four P Q G H) (hlb : Bts label) (hll : label.length <= 1000) (mt : nt <= 80) (mb : nb <= 80) (mL : ∀ j, j < nb -> L j <= 80) (mk : nk <= 80) (hC : ClaimIn w bt nt ct T bb nb cb BA L C B) (hK : FacsIn w bk nk K) :
  Calls Tryz.prog 129 #[gv P Q G H a n cap, .string (strOfNums label), cv bt nt ct bb nb cb, .slice bk nk ck] w fun e w' => e = .returned (.int .u64 (chI label P Q G H nt T nb L B nk K)) /\ Old w w' := by
 have HZ := lain2 w (gc P Q G H a n cap) (cc bt nt ct bb nb cb) 25 50
 have HT : Hid (∀ w', Old ((w.alloc (.cells (gc P Q G H a n cap) 25)).alloc (.cells (cc bt nt ct bb nb cb) 50)) w' -> w'.cell? ⟨w.heap.size, 0, none⟩ = some (.int .u64 P) /\ w'.cell? ⟨w.heap.size, 1, none⟩ = some (.int .u64 Q) /\ w'.cell? ⟨w.heap.size, 2, none⟩ = some (.int .u64 G) /\ w'.cell? ⟨w.heap.size, 3, none⟩ = some (.int .u64 H) /\ w'.cell? ⟨w.heap.size, 4, none⟩ = some (.slice a n cap) /\ w'.cell? ⟨w.heap.size + 1, 0, none⟩ = some (.slice bt nt ct) /\ w'.cell? ⟨w.heap.size + 1, 1, none⟩ = some (.slice bb nb cb)) := fun w' ho => by
  have h := HZ.then ho
  exact ⟨h.cell 0 0 (by simp) rfl, h.cell 0 1 (by simp) rfl, h.cell 0 2 (by simp) rfl, h.cell 0 3 (by simp) rfl, h.cell 0 4 (by simp) rfl, h.cell 1 0 (by simp) rfl, h.cell 1 1 (by simp) rfl⟩
 obtain ⟨S, hS⟩ : ∃ S : Nat -> List Int, S = partS P Q G H nt T nb L B nk K := ⟨_, rfl⟩
 have HSb : Hid (∀ i, Bts (S i)) := fun i => by rw [hS]; exact partS_bd _ _ _ _ _ _ _ _ _ _ _ i
 have hlen : ∀ i, (S i).length <= 640 := fun i => by rw [hS]; exact partS_len P Q G H T B K mt mL mk i
 have HN4 : Hid (∀ (wx wy : World) (t : TypeId), Old (wx.alloc (.cells #[.int .u64 P, .int .u64 Q, .int .u64 G, .int .u64 H] t)) wy -> Calls Tryz.prog 147 #[.slice (some ⟨wx.heap.size, 0, none⟩) 4 4] wy fun e w' => e = .returned (.string (strOfNums (S 0))) /\ Old wy w') := fun wx wy t ho => (pbytes_any _ 4 4 (four4 P Q G H) wy (by omega) ((facs_four wx P Q G H t h4).old ho)).mono fun e w' ⟨h, k⟩ => ⟨by rw [h, hS]; rfl, k⟩
 have HNt : Hid (∀ wx, Old w wx -> Calls Tryz.prog 147 #[.slice bt nt ct] wx fun e w' => e = .returned (.string (strOfNums (S 1))) /\ Old wx w') := fun wx ho => (pbytes_any bt nt ct T wx (by omega) (hC.tar.old ho)).mono fun e w' ⟨h, k⟩ => ⟨by rw [h, hS]; rfl, k⟩
 have HNr : Hid (∀ j wx, j < nb -> Old w wx -> Calls Tryz.prog 147 #[.slice (BA j) (L j) (C j)] wx fun e w' => e = .returned (.string (strOfNums (S (j + 2)))) /\ Old wx w') := fun j wx hj ho => (pbytes_any (BA j) (L j) (C j) (B j) wx (by have := mL j hj; omega) ((hC.bas.facs hj).old ho)).mono fun e w' ⟨h, k⟩ => ⟨by rw [h, hS, partS_row hj], k⟩
 have HNk : Hid (∀ wx, Old w wx -> Calls Tryz.prog 147 #[.slice bk nk ck] wx fun e w' => e = .returned (.string (strOfNums (S (nb + 2)))) /\ Old wx w') := fun wx ho => (pbytes_any bk nk ck K wx (by omega) (hK.old ho)).mono fun e w' ⟨h, k⟩ => ⟨by rw [h, hS, partS_last], k⟩
 have HNu : Hid (∀ b c wx, StrsIn wx b (nb + 3) S -> Calls Tryz.prog 128 #[.string (strOfNums label), .slice b (nb + 3) c, .int .u64 Q] wx fun e w' => e = .returned (.int .u64 (chI label P Q G H nt T nb L B nk K)) /\ Old wx w') := fun b c wx hs => (dnumber_any label b (nb + 3) c S Q wx hlb hs (by omega) (by have := numL_le (label := label) hlen (nb + 3); omega)).mono fun e w' ⟨h, k⟩ => ⟨by rw [h, hS]; rfl, k⟩
 have HB : Hid (ListsIn w bb nb BA L C B) := hC.bas
 generalize chI label P Q G H nt T nb L B nk K = R at *
 clear hS hlen h4 hlb hll mL mk hC hK mt
 obtain ⟨i0, hi0, hz0, hz1, hz2⟩ := info_parts strinfo
 go_enter Tryz.func129, Tryz.ntmps129
 go_upto_region 1 with fail
 have HW0 : Hid (Old w ((w.alloc (.cells (gc P Q G H a n cap) 25)).alloc (.cells (cc bt nt ct bb nb cb) 50))) := HZ.old
 generalize hW : (w.alloc (.cells (gc P Q G H a n cap) 25)).alloc (.cells (cc bt nt ct bb nb cb) 50) = W at *
 clear hW
 obtain ⟨d0, d1, d2, d3, d4, z0, z1⟩ := HT.out _ (Old.refl _)
 have hd : Old W W.drew := (Old.refl W).drew
 go_region_held3 (fun w' => w'.cell? ⟨w.heap.size, 0, none⟩ = some (.int .u64 P) /\ w'.cell? ⟨w.heap.size, 1, none⟩ = some (.int .u64 Q) /\ w'.cell? ⟨w.heap.size, 2, none⟩ = some (.int .u64 G) /\ w'.cell? ⟨w.heap.size, 3, none⟩ = some (.int .u64 H) /\ w'.cell? ⟨w.heap.size, 4, none⟩ = some (.slice a n cap) /\ w'.cell? ⟨w.heap.size + 1, 0, none⟩ = some (.slice bt nt ct) /\ w'.cell? ⟨w.heap.size + 1, 1, none⟩ = some (.slice bb nb cb)) (first | exact HT.out _ (h4.alloc _) | exact HT.out _ (hT.alloc _) | exact HT.out _ h4 | exact HT.out _ hT | exact HT.out _ (hd.alloc _) | exact HT.out _ hd) (first
  | (go_at_call_of 147 (Value.slice bt nt ct); refine (HNt.out _ (by first | exact HW0.out.trans h4 | exact HW0.out.trans (hd.alloc _) | exact HW0.out.trans hd)).mono ?_; rintro e wT ⟨rfl, oT⟩; have hT : Old W wT := (by first | exact h4.trans oT | exact (hd.alloc _).trans oT | exact hd.trans oT))
  | (go_at_call 147; refine (HN4.out _ _ _ (by first | exact Old.refl _ | exact oT | exact Old.drewAlloc _ _ | exact (Old.drewAlloc _ _).trans oT)).mono ?_; rintro e w4 ⟨rfl, o4⟩; have h4 : Old W w4 := (by first | exact (hT.alloc _).trans o4 | exact hT.trans o4 | exact (hd.alloc _).trans o4)))
 have HOw : Hid ((wT.alloc (.cells #[.string (strOfNums (S 0)), .string (strOfNums (S 1))] 9)).ownsRow W.heap.size 9 1 (.slice (some ⟨wT.heap.size, 0, none⟩) 2 2) 2 (cellsS S 2)) := strs_two wT W.heap.size S hT.size
 have HWl : Hid (Old W (wT.alloc (.cells #[.string (strOfNums (S 0)), .string (strOfNums (S 1))] 9))) := hT.alloc _
 generalize wT.alloc (.cells #[.string (strOfNums (S 0)), .string (strOfNums (S 1))] 9) = Wl at *
 clear d0 d1 d2 d3 d4 z0 z1
 go_upto_region 3 with fail
 go_loopw [9, 29] (fun pv iv wx => ∃ i : Nat, iv = .int .i64 (i : Int) /\ i <= nb /\ Hid (wx.ownsRow W.heap.size 9 1 pv (i + 2) (cellsS S (i + 2))) /\ Hid (Old W wx)) (fun _ iv _ => nb - (intOf iv).toNat)
 case atStart => exact ⟨0, rfl, Nat.zero_le _, HOw, HWl⟩
 case round =>
  obtain ⟨i, rfl, hi, HP, HW⟩ := hrel
  obtain ⟨d0, d1, d2, d3, d4, z0, z1⟩ := HT.out _ HW.out
  by_cases hlt : i < nb
  · rcases HB.out with h0 | ⟨bx, ox, hqx, _, hrx⟩
   · omega
   have cx := (HW0.out.trans HW.out).cellOf (hrx i hlt).1
   clear hrx
   subst hqx
   have HC : Hid (Calls Tryz.prog 147 #[.slice (BA i) (L i) (C i)] wr fun e w' => e = .returned (.string (strOfNums (S (i + 2)))) /\ Old wr w') := HNr.out i wr hlt (HW0.out.trans HW.out)
   generalize hsi : S (i + 2) = Si at *
   have HSi : Hid (S (i + 2) = Si) := hsi
   clear hsi
   go_wp2_with (first
    | (go_at_call 147; refine HC.out.mono ?_; rintro e w1 ⟨rfl, o1⟩; have hs1 := (HW.out.trans o1).size)
    | (at_builtin; refine wpList_append_own _ rfl _ _ 143 rfl W.heap.size 9 i0 (.string ⟨#[]⟩) 1 16 Tryz.underlying143 hi0 hz0 hz1 hz2 rfl (by decide) _ _ _ rfl ((own_old HP.out o1).alloc _) ⟨w1.heap.size, 0, none⟩ 1 1 [.string (strOfNums Si)] rfl rfl ?c1 ?c2 ?c3 ?c4 ?c5 ?_))
   case c1 => exact cell_one_new _ _ _
   case c2 => intro u hu; simp at hu; subst hu; rfl
   case c3 => unfold maxLen; omega
   case c4 => omega
   case c5 => simp; omega
   intro v' w2 hown' hgrow _
   have ho2 : Hid (Old W w2) := old_app (HW.out.trans o1) (own_old HP.out o1) hgrow
   have hw2 : Hid (w2.ownsRow W.heap.size 9 1 v' (i + 1 + 2) (cellsS S (i + 1 + 2))) := by
    have e : cellsS S (i + 1 + 2) = cellsS S (i + 2) ++ [.string (strOfNums Si)] := by rw [<- HSi.out]; exact cellsS_succ S (i + 2)
    unfold Hid
    rw [e]
    exact hown'
   clear hown' hgrow
   go_wp2_with fail
   go_roundw
   case rel => exact ⟨i + 1, by first | exact idx_next i | exact idx_up i, by omega, hw2, ho2⟩
   case measure => simp [intOf]; omega
  · have he : nb = i := by omega
   subst he
   have HC : Hid (Calls Tryz.prog 147 #[.slice bk nk ck] wr fun e w' => e = .returned (.string (strOfNums (S (nb + 2)))) /\ Old wr w') := HNk.out wr (HW0.out.trans HW.out)
   generalize hsi : S (nb + 2) = Si at *
   have HSi : Hid (S (nb + 2) = Si) := hsi
   clear hsi
   go_upto_region 8 with (first
    | (go_at_call 147; refine HC.out.mono ?_; rintro e w1 ⟨rfl, o1⟩; have hs1 := (HW.out.trans o1).size)
    | (at_builtin; refine wpList_append_own _ rfl _ _ 143 rfl W.heap.size 9 i0 (.string ⟨#[]⟩) 1 16 Tryz.underlying143 hi0 hz0 hz1 hz2 rfl (by decide) _ _ _ rfl ((own_old HP.out o1).alloc _) ⟨w1.heap.size, 0, none⟩ 1 1 [.string (strOfNums Si)] rfl rfl ?c1 ?c2 ?c3 ?c4 ?c5 ?_))
   case c1 => exact cell_one_new _ _ _
   case c2 => intro u hu; simp at hu; subst hu; rfl
   case c3 => unfold maxLen; omega
   case c4 => omega
   case c5 => simp; omega
   intro v' w2 hown' hgrow _
   have ho2 : Hid (Old W w2) := old_app (HW.out.trans o1) (own_old HP.out o1) hgrow
   have hw2 : w2.ownsRow W.heap.size 9 1 v' (nb + 3) (cellsS S (nb + 3)) := by
    have e : cellsS S (nb + 3) = cellsS S (nb + 2) ++ [.string (strOfNums Si)] := by rw [<- HSi.out]; exact cellsS_succ S (nb + 2)
    rw [e]
    exact hown'
   obtain ⟨ba, bc, rfl, _, hst⟩ := own_strs hw2 (fun j _ => HSb.out j)
   have HN : Hid (Calls Tryz.prog 128 #[.string (strOfNums label), .slice ba (nb + 3) bc, .int .u64 Q] w2 fun e w' => e = .returned (.int .u64 R) /\ Old w2 w') := HNu.out ba bc w2 hst
   clear hown' hgrow hw2 hst d0 d1 d2 d3 d4 z0 z1
   obtain ⟨d0, d1, d2, d3, d4, z0, z1⟩ := HT.out _ ho2.out
   go_wp2_with (go_at_call 128; refine HN.out.mono ?_; rintro e w3 ⟨rfl, o3⟩)
   go_ret
   exact ⟨rfl, (HW0.out.trans ho2.out).trans o3⟩
end
section
open Go.RowKit
set_option linter.unusedSimpArgs false in
theorem sbytes_any (b : Option Addr) (n cap : Nat) (F : Nat -> Int) (w : World) (hn : n <= 1000) (h : FacsIn w b n F) :
  Calls Tryz.prog 126 #[.slice b n cap] w fun e w' => e = .returned (.string (strOfNums (packL F n))) /\ Old w w' := by
 obtain ⟨i0, hi0, hz0, hz1, hz2⟩ := info_parts u8info
 have HX : Hid (FacsIn w b n F) := h
 have hmk : ∀ wx, (Instr.makeSlice 152 (.int .i64 0) (.int .i64 (8 * (n : Int)))).run Tryz.prog wx = .ok (.slice (some ⟨wx.heap.size, 0, none⟩) 0 (8 * n)) (wx.alloc (.cells (madeCells #[Value.int .u8 0] (8 * n)) 5)) := make8_run n hn
 clear h
 have HO0 : Hid ((w.alloc (.cells (madeCells #[Value.int .u8 0] (8 * n)) 5)).ownsRow w.heap.size 5 1 (.slice (some ⟨w.heap.size, 0, none⟩) 0 (8 * n)) 0 []) := World.ownsRow_made w _ (8 * n) (Nat.le_refl _) (by unfold maxLen; omega) (by rw [size_madeCells]; omega)
 have HW0 : Hid (Old w (w.alloc (.cells (madeCells #[Value.int .u8 0] (8 * n)) 5))) := (Old.refl _).alloc _
 go_enter Tryz.func126, Tryz.ntmps126
 go_wp2_with fail
 go_loopw [3, 13] (fun v iv wx => ∃ i : Nat, iv = .int .i64 (i : Int) /\ i <= n /\ Hid (v ≠ .slice none 0 0) /\ Hid (wx.ownsRow w.heap.size 5 1 v (8 * i) ((packL F i).map (Value.int .u8))) /\ Hid (Old w wx)) (fun _ iv _ => n - (intOf iv).toNat)
 case atStart => exact ⟨0, rfl, Nat.zero_le _, (by unfold Hid; simp), HO0, HW0⟩
 case round =>
  obtain ⟨i, rfl, hi, HE, HV, HO⟩ := hrel
  by_cases hlt : i < n
  · rcases HX.out.old HO.out with h0 | ⟨bx, ox, hqx, _, hrx⟩
   · omega
   have cx := (hrx i hlt).1
   clear hrx
   subst hqx
   have HP : Hid (packL F (i + 1) = packL F i ++ bytesP (F i) 8 8) := rfl
   generalize F i = x at *
   go_wp2_with fail
   go_loopw [3, 6] (fun v sv wx => ∃ j r : Nat, j + r = 8 /\ sv = .int .i64 (8 * (r : Int) - 8) /\ Hid (v ≠ .slice none 0 0) /\ Hid (wx.ownsRow w.heap.size 5 1 v (8 * i + j) ((packL F i ++ bytesP x 8 j).map (Value.int .u8))) /\ Hid (Old w wx)) (fun _ sv _ => (intOf sv + 8).toNat)
   case atStart => exact ⟨0, 8, by omega, rfl, HE, by have := HV; unfold Hid at this ⊢; simpa [bytesP] using this, HO⟩
   case round =>
    obtain ⟨j, r, hjr, rfl, HE2, HV2, HO2⟩ := hrel
    cases r with
    | zero =>
     obtain rfl : j = 8 := by omega
     have HV3 : Hid (wr.ownsRow w.heap.size 5 1 u3 (8 * (i + 1)) ((packL F (i + 1)).map (Value.int .u8))) := by rw [HP.out]; exact HV2
     go_wp2_with fail
     go_roundw
     case rel => exact ⟨i + 1, idx_next i, by omega, HE2, HV3, HO2⟩
     case measure => simp [intOf]; omega
    | succ q =>
     have eq : (8 : Int) * ((q + 1 : Nat) : Int) - 8 = ((8 * q : Nat) : Int) := by omega
     simp only [eq]
     clear eq
     have hs := HO2.out.size
     have HB : Hid (bytesP x 8 (j + 1) = bytesP x 8 j ++ [byteAt x q]) := by unfold Hid; rw [bytesP_succ, show 8 - 1 - j = q by omega]
     have q0 : (0 : Int) <= ((8 * q : Nat) : Int) := by omega
     have q1 : ((8 * q : Nat) : Int) < 64 := by omega
     go_wp2_with (at_builtin; refine wpList_append_own _ rfl _ _ 152 rfl w.heap.size 5 i0 (.int .u8 0) 1 1 Tryz.underlying152 hi0 hz0 hz1 hz2 rfl (by decide) _ _ _ rfl (World.ownsRow.alloc HV2.out _) ⟨wr.heap.size, 0, none⟩ 1 1 [.int .u8 (byteAt x q)] rfl rfl ?c1 ?c2 ?c3 ?c4 ?c5 ?_)
     case c1 => exact cell_one_new _ _ _
     case c2 => intro u hu; simp at hu; subst hu; rfl
     case c3 => unfold maxLen; omega
     case c4 => omega
     case c5 => simp; omega
     intro v' w1 hown' hgrow hne
     have HE3 : Hid (v' ≠ .slice none 0 0) := hne
     clear hne
     have HO3 : Hid (Old w w1) := old_app HO2.out HV2.out hgrow
     have HV3 : Hid (w1.ownsRow w.heap.size 5 1 v' (8 * i + (j + 1)) ((packL F i ++ bytesP x 8 (j + 1)).map (Value.int .u8))) := by
      rw [HB.out]
      simp only [List.map_append, List.map_cons, List.map_nil, List.append_assoc] at hown' ⊢
      exact hown'
     clear hown' hgrow
     go_wp2_with fail
     go_roundw
     case rel => exact ⟨j + 1, q, by omega, by first | rfl | (congr 1; omega), HE3, HV3, HO3⟩
     case measure => simp [intOf]; omega
  · have he : n = i := by omega
   subst he
   have zl := packL_len F n
   have HC : Hid (∃ g c, u3 = .slice g (8 * n) c /\ (convert 152 9 (.slice g (8 * n) c)).run Tryz.prog wr = .ok (.string (strOfNums (packL F n))) wr) := by
    rcases HV.out.2 with ⟨hv, _⟩ | ⟨g, c, cur, hv, _, _, _⟩
    · exact absurd hv HE.out
    · subst hv
     refine ⟨_, c, rfl, run_convert_bytes_arg wr 152 5 Tryz.underlying152 Tryz.underlying5 g 0 (8 * n) c (packL F n) zl (fun i hi => ?_) 9 Tryz.underlying9⟩
     rw [Nat.zero_add, HV.out.cellAt i (by omega), List.getElem?_map, List.getD, List.getElem?_eq_getElem (by omega)]
     rfl
   obtain ⟨g, c, rfl, hcv⟩ := HC.out
   clear HV
   go_wp2_with fail
   go_ret
   exact ⟨rfl, HO.out⟩
end
section
open Go.RowKit
def askS (l : List Int) (K : Nat -> List Int) (B : Nat -> Nat -> Int) (L : Nat -> Nat) : Nat -> List Int := fun i => if i = 0 then l else if i < 4 then K (i - 1) else packL (B (i - 4)) (L (i - 4))
theorem numL_congr8 {label : List Int} {S S' : Nat -> List Int} : ∀ {n : Nat}, (∀ i, i < n -> S i = S' i) -> numL label S n = numL label S' n
 | 0, _ => rfl
 | n + 1, h => by
  show numL label S n ++ (_ ++ _) = numL label S' n ++ (_ ++ _)
  rw [numL_congr8 fun i hi => h i (by omega), h n (by omega)]
theorem number_congr {label : List Int} {S S' : Nat -> List Int} {n : Nat} {Q : Int} (h : ∀ i, i < n -> S i = S' i) : numberI label S n Q = numberI label S' n Q := by
 unfold numberI
 rw [numL_congr8 h]
theorem strs_one (w : World) (base : Nat) (S : Nat -> List Int) (hb : base <= w.heap.size) : (w.alloc (.cells #[.string (strOfNums (S 0))] 9)).ownsRow base 9 1 (.slice (some ⟨w.heap.size, 0, none⟩) 1 1) 1 (cellsS S 1) :=
 ⟨by simp [cellsS], Or.inr ⟨w.heap.size, 1, _, rfl, hb, heap_alloc_last w _, by omega, by unfold maxLen; omega, by simp, by simp [cellsS, List.range_succ]⟩⟩
theorem cells_four (S : Nat -> List Int) : cellsS S 4 = cellsS S 1 ++ [.string (strOfNums (S 1)), .string (strOfNums (S 2)), .string (strOfNums (S 3))] := rfl
theorem sak_any (l label : List Int) (K : Nat -> List Int) (Q : Int) (kb sb lb gb : Nat) (bl : Option Addr) (m cl : Nat) (BA : Nat -> Option Addr) (L C : Nat -> Nat) (B : Nat -> Nat -> Int) (w : World) (hl : Bts l) (hll : l.length <= 640) (hK : ∀ i, i < 3 -> Bts (K i)) (hKl : ∀ i, (K i).length <= 640) (hlb : Bts label) (hlbl : label.length <= 1000) (hm : m <= 10) (hL : ∀ j, j < m -> L j <= 80)
  (hk : w.cell? ⟨kb, 0, none⟩ = some (.slice (some ⟨sb, 0, none⟩) 3 3)) (hs : ∀ i, i < 3 -> w.cell? ⟨sb, i, none⟩ = some (.string (strOfNums (K i)))) (hb : w.cell? ⟨lb, 0, none⟩ = some (.string (strOfNums label))) (hg : w.cell? ⟨gb, 1, none⟩ = some (.int .u64 Q)) (hB : ListsIn w bl m BA L C B) :
  Calls Tryz.prog 127 #[.string (strOfNums l), .slice bl m cl, .pointer (some ⟨kb, 0, none⟩), .pointer (some ⟨lb, 0, none⟩), .pointer (some ⟨gb, 0, none⟩)] w fun e w' => e = .returned (.int .u64 (numberI label (askS l K B L) (m + 4) Q)) /\ Old w w' := by
 obtain ⟨S, hS⟩ : ∃ S : Nat -> List Int, S = fun i => if i < m + 4 then askS l K B L i else [] := ⟨_, rfl⟩
 have hSe : ∀ i, i < m + 4 -> S i = askS l K B L i := fun i hi => by rw [hS]; simp only; rw [if_pos hi]
 have HSb : Hid (∀ i, i < m + 4 -> Bts (S i)) := fun i hi => by
  rw [hSe i hi]
  unfold askS
  split
  · exact hl
  · split
   · exact hK _ (by omega)
   · exact packL_bd _ _
 have hlen : ∀ i, (S i).length <= 640 := fun i => by
  rw [hS]
  simp only
  split
  · rename_i hi
   unfold askS
   split
   · exact hll
   · split
    · exact hKl _
    · rw [packL_len]; have := hL (i - 4) (by omega); omega
  · simp
 have HNr : Hid (∀ j wx, j < m -> Old w wx -> Calls Tryz.prog 126 #[.slice (BA j) (L j) (C j)] wx fun e w' => e = .returned (.string (strOfNums (S (j + 4)))) /\ Old wx w') := fun j wx hj ho => (sbytes_any (BA j) (L j) (C j) (B j) wx (by have := hL j hj; omega) ((hB.facs hj).old ho)).mono fun e w' ⟨h, k⟩ => ⟨by rw [h, hSe _ (by omega)]; unfold askS; rw [if_neg (by omega), if_neg (by omega), show j + 4 - 4 = j by omega], k⟩
 have HNu : Hid (∀ b c wx, StrsIn wx b (m + 4) S -> Calls Tryz.prog 128 #[.string (strOfNums label), .slice b (m + 4) c, .int .u64 Q] wx fun e w' => e = .returned (.int .u64 (numberI label (askS l K B L) (m + 4) Q)) /\ Old wx w') := fun b c wx hst => (dnumber_any label b (m + 4) c S Q wx hlb hst (by omega) (by have := numL_le (label := label) hlen (m + 4); omega)).mono fun e w' ⟨h, k⟩ => ⟨by rw [h, number_congr hSe], k⟩
 have HT : Hid (∀ w', Old w w' -> w'.cell? ⟨kb, 0, none⟩ = some (.slice (some ⟨sb, 0, none⟩) 3 3) /\ w'.cell? ⟨lb, 0, none⟩ = some (.string (strOfNums label)) /\ w'.cell? ⟨gb, 1, none⟩ = some (.int .u64 Q)) := fun w' ho => ⟨ho.cellOf hk, ho.cellOf hb, ho.cellOf hg⟩
 have HK : Hid (∀ w' i, i < 3 -> Old w w' -> w'.cell? ⟨sb, i, none⟩ = some (.string (strOfNums (S (i + 1))))) := fun w' i hi ho => by
  rw [hSe (i + 1) (by omega)]
  unfold askS
  rw [if_neg (by omega), if_pos (by omega)]
  exact ho.cellOf (hs i hi)
 have HB : Hid (ListsIn w bl m BA L C B) := hB
 have hS0 : l = S 0 := by rw [hSe 0 (by omega)]; rfl
 generalize numberI label (askS l K B L) (m + 4) Q = R at *
 rw [hS0]
 clear hS hSe hlen hl hll hK hKl hlb hlbl hL hk hs hb hg hB hS0
 obtain ⟨i0, hi0, hz0, hz1, hz2⟩ := info_parts strinfo
 go_enter Tryz.func127, Tryz.ntmps127
 obtain ⟨d0, d1, d2⟩ := HT.out _ (Old.refl _)
 obtain ⟨z0, z1, z2⟩ := HT.out _ ((Old.refl w).alloc (.cells #[.string (strOfNums (S 0))] 9))
 go_wp2_with (at_builtin; refine wpList_append_own _ rfl _ _ 143 rfl w.heap.size 9 i0 (.string ⟨#[]⟩) 1 16 Tryz.underlying143 hi0 hz0 hz1 hz2 rfl (by decide) _ _ _ rfl (strs_one w w.heap.size S (Nat.le_refl _)) ⟨sb, 0, none⟩ 3 3 [.string (strOfNums (S 1)), .string (strOfNums (S 2)), .string (strOfNums (S 3))] rfl rfl ?c1 ?c2 ?c3 ?c4 ?c5 ?_)
 case c1 =>
  have h := fun i hi => HK.out (w.alloc (.cells #[.string (strOfNums (S 0))] 9)) i hi ((Old.refl w).alloc _)
  intro j u hu
  match j, hu with
  | 0, hu => simp at hu; subst hu; exact h 0 (by omega)
  | 1, hu => simp at hu; subst hu; exact h 1 (by omega)
  | 2, hu => simp at hu; subst hu; exact h 2 (by omega)
  | j + 3, hu => simp at hu
 case c2 => intro u hu; simp at hu; rcases hu with rfl | rfl | rfl <;> rfl
 case c3 => unfold maxLen; omega
 case c4 => omega
 case c5 => simp
 intro v' w2 hown' hgrow _
 have HO2 : Hid (Old w w2) := ((Old.refl w).alloc _).grown hgrow fun b hb => by simp [Value.ownBlock] at hb; omega
 have HP2 : Hid (w2.ownsRow w.heap.size 9 1 v' (0 + 4) (cellsS S (0 + 4))) := by
  unfold Hid
  rw [Nat.zero_add, cells_four S]
  exact hown'
 clear hown' hgrow d0 d1 d2 z0 z1
 go_upto_region 3 with fail
 go_loopw [8, 17] (fun pv iv wx => ∃ i : Nat, iv = .int .i64 (i : Int) /\ i <= m /\ Hid (wx.ownsRow w.heap.size 9 1 pv (i + 4) (cellsS S (i + 4))) /\ Hid (Old w wx)) (fun _ iv _ => m - (intOf iv).toNat)
 case atStart => exact ⟨0, rfl, Nat.zero_le _, HP2, HO2⟩
 case round =>
  obtain ⟨i, rfl, hi, HP, HW⟩ := hrel
  by_cases hlt : i < m
  · rcases HB.out with h0 | ⟨bx, ox, hqx, _, hrx⟩
   · omega
   have cx := HW.out.cellOf (hrx i hlt).1
   clear hrx
   subst hqx
   have HC : Hid (Calls Tryz.prog 126 #[.slice (BA i) (L i) (C i)] wr fun e w' => e = .returned (.string (strOfNums (S (i + 4)))) /\ Old wr w') := HNr.out i wr hlt HW.out
   generalize hsi : S (i + 4) = Si at *
   have HSi : Hid (S (i + 4) = Si) := hsi
   clear hsi
   go_wp2_with (first
    | (go_at_call 126; refine HC.out.mono ?_; rintro e w1 ⟨rfl, o1⟩; have hs1 := (HW.out.trans o1).size)
    | (at_builtin; refine wpList_append_own _ rfl _ _ 143 rfl w.heap.size 9 i0 (.string ⟨#[]⟩) 1 16 Tryz.underlying143 hi0 hz0 hz1 hz2 rfl (by decide) _ _ _ rfl ((own_old HP.out o1).alloc _) ⟨w1.heap.size, 0, none⟩ 1 1 [.string (strOfNums Si)] rfl rfl ?c1 ?c2 ?c3 ?c4 ?c5 ?_))
   case c1 => exact cell_one_new _ _ _
   case c2 => intro u hu; simp at hu; subst hu; rfl
   case c3 => unfold maxLen; omega
   case c4 => omega
   case c5 => simp; omega
   intro v' w2 hown' hgrow _
   have ho2 : Hid (Old w w2) := old_app (HW.out.trans o1) (own_old HP.out o1) hgrow
   have hw2 : Hid (w2.ownsRow w.heap.size 9 1 v' (i + 1 + 4) (cellsS S (i + 1 + 4))) := by
    have e : cellsS S (i + 1 + 4) = cellsS S (i + 4) ++ [.string (strOfNums Si)] := by rw [<- HSi.out]; exact cellsS_succ S (i + 4)
    unfold Hid
    rw [e]
    exact hown'
   clear hown' hgrow
   go_wp2_with fail
   go_roundw
   case rel => exact ⟨i + 1, by first | exact idx_next i | exact idx_up i, by omega, hw2, ho2⟩
   case measure => simp [intOf]; omega
  · have he : m = i := by omega
   subst he
   obtain ⟨ba, bc, rfl, _, hst⟩ := own_strs HP.out HSb.out
   have HN : Hid (Calls Tryz.prog 128 #[.string (strOfNums label), .slice ba (m + 4) bc, .int .u64 Q] wr fun e w' => e = .returned (.int .u64 R) /\ Old wr w') := HNu.out ba bc wr hst
   obtain ⟨d0, d1, d2⟩ := HT.out _ HW.out
   clear hst HP HP2 HO2
   go_wp2_with (go_at_call 128; refine HN.out.mono ?_; rintro e w3 ⟨rfl, o3⟩)
   go_ret
   exact ⟨rfl, HW.out.trans o3⟩
end
section
open Go.RowKit
def fiv8 (P Q G H y : Int) : Nat -> Int | 0 => P | 1 => Q | 2 => G | 3 => H | _ => y
theorem facs_fiv8 (w : World) (P Q G H y : Int) (t : TypeId) (h4 : Four P Q G H) (hy : U64 y) : FacsIn (w.alloc (.cells #[.int .u64 P, .int .u64 Q, .int .u64 G, .int .u64 H, .int .u64 y] t)) (some ⟨w.heap.size, 0, none⟩) 5 (fiv8 P Q G H y) := by
 refine Or.inr ⟨_, _, rfl, by simp, fun j hj => ?_⟩
 match j, hj with
 | 0, _ => exact ⟨(World.cell?_alloc_mark w _ t (0, 0) 0).trans rfl, h4.p0, h4.p1⟩
 | 1, _ => exact ⟨(World.cell?_alloc_mark w _ t (0, 0) 1).trans rfl, h4.q0, h4.q1⟩
 | 2, _ => exact ⟨(World.cell?_alloc_mark w _ t (0, 0) 2).trans rfl, h4.g0, h4.g1⟩
 | 3, _ => exact ⟨(World.cell?_alloc_mark w _ t (0, 0) 3).trans rfl, h4.h0, h4.h1⟩
 | 4, _ => exact ⟨(World.cell?_alloc_mark w _ t (0, 0) 4).trans rfl, hy.1, hy.2⟩
def knwS (P Q G H y : Int) (l : Nat) (C : Nat -> Nat -> Int) (no : Nat) (O : Nat -> Nat -> Int) : Nat -> List Int
 | 0 => packL (fiv8 P Q G H y) 5
 | 1 => packL (flatF C) (6 * l)
 | 2 => packL (flatF O) (6 * no)
 | _ => []
theorem knwS_bd (P Q G H y : Int) (l : Nat) (C : Nat -> Nat -> Int) (no : Nat) (O : Nat -> Nat -> Int) : ∀ i, i < 3 -> Bts (knwS P Q G H y l C no O i)
 | 0, _ => packL_bd _ _
 | 1, _ => packL_bd _ _
 | 2, _ => packL_bd _ _
theorem knwS_len (P Q G H y : Int) {l : Nat} (C : Nat -> Nat -> Int) {no : Nat} (O : Nat -> Nat -> Int) (hl : l <= 8) (hn : no <= 8) : ∀ i, (knwS P Q G H y l C no O i).length <= 640
 | 0 => by show (packL _ _).length <= _; rw [packL_len]; omega
 | 1 => by show (packL _ _).length <= _; rw [packL_len]; omega
 | 2 => by show (packL _ _).length <= _; rw [packL_len]; omega
 | _ + 3 => by show ([] : List Int).length <= _; simp
structure AskIn (w : World) (kb sb lb gb : Nat) (K : Nat -> List Int) (label : List Int) (Q : Int) : Prop where
 k : w.cell? ⟨kb, 0, none⟩ = some (.slice (some ⟨sb, 0, none⟩) 3 3)
 s : ∀ i, i < 3 -> w.cell? ⟨sb, i, none⟩ = some (.string (strOfNums (K i)))
 l : w.cell? ⟨lb, 0, none⟩ = some (.string (strOfNums label))
 g : w.cell? ⟨gb, 1, none⟩ = some (.int .u64 Q)
theorem AskIn.old {w w' : World} {kb sb lb gb : Nat} {K : Nat -> List Int} {label : List Int} {Q : Int} (h : AskIn w kb sb lb gb K label Q) (ho : Old w w') : AskIn w' kb sb lb gb K label Q := ⟨ho.cellOf h.k, fun i hi => ho.cellOf (h.s i hi), ho.cellOf h.l, ho.cellOf h.g⟩
def askV (kb lb gb : Nat) : Value := .func (.func 127) #[] #[.pointer (some ⟨kb, 0, none⟩), .pointer (some ⟨lb, 0, none⟩), .pointer (some ⟨gb, 0, none⟩)]
theorem sasker_any (P Q G H : Int) (a : Option Addr) (m cap : Nat) (label : List Int) (y : Int) (bi : Option Addr) (l ci : Nat) (C : Nat -> Nat -> Int) (bo : Option Addr) (no co : Nat) (O : Nat -> Nat -> Int) (w : World) (h4 : Four P Q G H) (hy : U64 y) (hl : l <= 100) (hno : no <= 100) (hC : BoxsIn w bi l C) (hO : BoxsIn w bo no O) :
  Calls Tryz.prog 89 #[gv P Q G H a m cap, .string (strOfNums label), .int .u64 y, .slice bi l ci, .slice bo no co] w fun e w' => Old w w' /\ ∃ kb sb lb gb, e = .returned (askV kb lb gb) /\ AskIn w' kb sb lb gb (knwS P Q G H y l C no O) label Q := by
 have HZ := lain2 w (gc P Q G H a m cap) #[.string (strOfNums label)] 25 9
 have HT0 : ∀ w', Old ((w.alloc (.cells (gc P Q G H a m cap) 25)).alloc (.cells #[.string (strOfNums label)] 9)) w' -> w'.cell? ⟨w.heap.size, 0, none⟩ = some (.int .u64 P) /\ w'.cell? ⟨w.heap.size, 1, none⟩ = some (.int .u64 Q) /\ w'.cell? ⟨w.heap.size, 2, none⟩ = some (.int .u64 G) /\ w'.cell? ⟨w.heap.size, 3, none⟩ = some (.int .u64 H) /\ w'.cell? ⟨w.heap.size + 1, 0, none⟩ = some (.string (strOfNums label)) := fun w' ho => by
  have h := HZ.then ho
  exact ⟨h.cell 0 0 (by simp) rfl, h.cell 0 1 (by simp) rfl, h.cell 0 2 (by simp) rfl, h.cell 0 3 (by simp) rfl, h.cell 1 0 (by simp) rfl⟩
 have HW0 : Hid (Old w ((w.alloc (.cells (gc P Q G H a m cap) 25)).alloc (.cells #[.string (strOfNums label)] 9))) := HZ.old
 obtain ⟨S, hS⟩ : ∃ S, S = knwS P Q G H y l C no O := ⟨_, rfl⟩
 have HA : Hid (∀ (wx wy : World) (t : TypeId), Old (wx.alloc (.cells #[.int .u64 P, .int .u64 Q, .int .u64 G, .int .u64 H, .int .u64 y] t)) wy -> Calls Tryz.prog 126 #[.slice (some ⟨wx.heap.size, 0, none⟩) 5 5] wy (Ret wy (.string (strOfNums (S 0))))) := fun wx wy t ho => by rw [hS]; exact sbytes_any _ 5 5 (fiv8 P Q G H y) wy (by omega) ((facs_fiv8 wx P Q G H y t h4 hy).old ho)
 have HN1 : Hid (∀ wx, Old w wx -> Calls Tryz.prog 104 #[.slice bi l ci] wx fun e w' => Old wx w' /\ ∃ b c, e = .returned (.slice b (6 * l) c) /\ FacsIn w' b (6 * l) (flatF C)) := fun wx ho => (snumbers_any bi l ci C wx (by omega) (hC.old ho)).mono fun e w' ⟨k, v, he, hN⟩ => by
  obtain ⟨b, c, rfl, _, hf⟩ := hN.facs (flat_u64 hC)
  exact ⟨k, b, c, he, hf⟩
 have HN2 : Hid (∀ wx, Old w wx -> Calls Tryz.prog 104 #[.slice bo no co] wx fun e w' => Old wx w' /\ ∃ b c, e = .returned (.slice b (6 * no) c) /\ FacsIn w' b (6 * no) (flatF O)) := fun wx ho => (snumbers_any bo no co O wx (by omega) (hO.old ho)).mono fun e w' ⟨k, v, he, hN⟩ => by
  obtain ⟨b, c, rfl, _, hf⟩ := hN.facs (flat_u64 hO)
  exact ⟨k, b, c, he, hf⟩
 have HB1 : Hid (∀ wx b c, FacsIn wx b (6 * l) (flatF C) -> Calls Tryz.prog 126 #[.slice b (6 * l) c] wx (Ret wx (.string (strOfNums (S 1))))) := fun wx b c hf => by rw [hS]; exact sbytes_any b (6 * l) c (flatF C) wx (by omega) hf
 have HB2 : Hid (∀ wx b c, FacsIn wx b (6 * no) (flatF O) -> Calls Tryz.prog 126 #[.slice b (6 * no) c] wx (Ret wx (.string (strOfNums (S 2))))) := fun wx b c hf => by rw [hS]; exact sbytes_any b (6 * no) c (flatF O) wx (by omega) hf
 rw [<- hS]
 clear HZ hS h4 hy hl hno hC hO
 go_enter Tryz.func89, Tryz.ntmps89
 go_upto_region 1 with fail
 generalize (w.alloc (.cells (gc P Q G H a m cap) 25)).alloc (.cells #[.string (strOfNums label)] 9) = W at *
 generalize w.heap.size = gb at *
 have HT : Hid (∀ w', Old W w' -> w'.cell? ⟨gb, 0, none⟩ = some (.int .u64 P) /\ w'.cell? ⟨gb, 1, none⟩ = some (.int .u64 Q) /\ w'.cell? ⟨gb, 2, none⟩ = some (.int .u64 G) /\ w'.cell? ⟨gb, 3, none⟩ = some (.int .u64 H) /\ w'.cell? ⟨gb + 1, 0, none⟩ = some (.string (strOfNums label))) := HT0
 clear HT0
 obtain ⟨x0, x1, x2, x3, x4⟩ := HT.out _ (Old.refl _)
 have hmf : ∀ (fn : Fn) (first cap : Array Value) (w : World), (Instr.makeFunc fn first cap).run Tryz.prog w = .ok (.func fn first cap) w := fun _ _ _ _ => rfl
 have HWl : Hid (Old W (W.alloc (.cells #[.int .u64 P, .int .u64 Q, .int .u64 G, .int .u64 H, .int .u64 y] 22))) := (Old.refl _).alloc _
 go_upto_region 2 with (first
  | (have hg := hN2; clear hg; go_at_call 126; refine (HB2.out _ _ _ hf2).mono ?_; rintro e w5 ⟨rfl, o5⟩; have h5 : Hid (Old W w5) := hN2.out.trans o5)
  | (have hg := hA2; clear hg; go_at_call 104; refine (HN2.out _ (HW0.out.trans hA2.out)).mono ?_; rintro e w4 ⟨o4, b2, c2, rfl, hf2⟩; have hN2 : Hid (Old W w4) := hA2.out.trans o4)
  | (have hg := hN1; clear hg; go_at_call 126; refine (HB1.out _ _ _ hf1).mono ?_; rintro e w3 ⟨rfl, o3⟩; have hA2 : Hid (Old W w3) := hN1.out.trans o3)
  | (have hg := hA1; clear hg; go_at_call 104; refine (HN1.out _ (HW0.out.trans hA1.out)).mono ?_; rintro e w2 ⟨o2, b1, c1, rfl, hf1⟩; have hN1 : Hid (Old W w2) := hA1.out.trans o2)
  | (go_at_call 126; refine (HA.out _ _ _ (Old.refl _)).mono ?_; rintro e w1 ⟨rfl, o1⟩; have hA1 : Hid (Old W w1) := HWl.out.trans o1))
 have HR1 : ((w5.alloc (.cells #[.string (strOfNums (S 0)), .string (strOfNums (S 1)), .string (strOfNums (S 2))] 9)).alloc (.cells #[.slice (some ⟨w5.heap.size, 0, none⟩) 3 3] 143)).heap[w5.heap.size]? = some (.cells #[.string (strOfNums (S 0)), .string (strOfNums (S 1)), .string (strOfNums (S 2))] 9 (0, 0)) := (((Old.refl _).alloc _).block _ (by simp)).trans (heap_alloc_last _ _)
 have HR2 : ((w5.alloc (.cells #[.string (strOfNums (S 0)), .string (strOfNums (S 1)), .string (strOfNums (S 2))] 9)).alloc (.cells #[.slice (some ⟨w5.heap.size, 0, none⟩) 3 3] 143)).heap[w5.heap.size + 1]? = some (.cells #[.slice (some ⟨w5.heap.size, 0, none⟩) 3 3] 143 (0, 0)) := by
  have := heap_alloc_last (w5.alloc (.cells #[.string (strOfNums (S 0)), .string (strOfNums (S 1)), .string (strOfNums (S 2))] 9)) (.cells #[.slice (some ⟨w5.heap.size, 0, none⟩) 3 3] 143)
  rwa [show (w5.alloc (.cells #[.string (strOfNums (S 0)), .string (strOfNums (S 1)), .string (strOfNums (S 2))] 9)).heap.size = w5.heap.size + 1 by simp] at this
 have HO6 : Old W ((w5.alloc (.cells #[.string (strOfNums (S 0)), .string (strOfNums (S 1)), .string (strOfNums (S 2))] 9)).alloc (.cells #[.slice (some ⟨w5.heap.size, 0, none⟩) 3 3] 143)) := (h5.out.alloc _).alloc _
 have HE : Hid (Old w ((w5.alloc (.cells #[.string (strOfNums (S 0)), .string (strOfNums (S 1)), .string (strOfNums (S 2))] 9)).alloc (.cells #[.slice (some ⟨w5.heap.size, 0, none⟩) 3 3] 143)) /\ AskIn ((w5.alloc (.cells #[.string (strOfNums (S 0)), .string (strOfNums (S 1)), .string (strOfNums (S 2))] 9)).alloc (.cells #[.slice (some ⟨w5.heap.size, 0, none⟩) 3 3] 143)) (w5.heap.size + 1) w5.heap.size (gb + 1) gb S label Q) := by
  obtain ⟨y0, y1, y2, y3, y4⟩ := HT.out _ HO6
  refine ⟨HW0.out.trans HO6, (cell_of_row _ _ 0 _ _ (0, 0) HR2).trans rfl, fun i hi => ?_, y4, y1⟩
  rw [cell_of_row _ _ i _ _ (0, 0) HR1]
  match i, hi with
  | 0, _ => rfl
  | 1, _ => rfl
  | 2, _ => rfl
 clear HR1 HR2 HO6
 go_wp2_with fail
 go_ret
 exact ⟨HE.out.1, _, _, _, _, rfl, HE.out.2⟩
end
end Go.Proofs.YtlnmjbbpenhdbaaGreat
