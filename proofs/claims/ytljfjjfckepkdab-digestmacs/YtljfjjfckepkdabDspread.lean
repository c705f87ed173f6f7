/-
  The program's words of a piece (layer 3).
-/
import Derived.Test.YtljfjjfckepkdabDarr
namespace Go.Proofs.Ytljfjjfckepkdab
open Go.RowKit

theorem str_part (xs : List Int) (a b : Nat) : (strOfNums xs).extract a b = strOfNums ((xs.drop a).take (b - a)) := by
  apply ByteArray.ext
  rw [ByteArray.data_extract]
  apply Array.ext'
  simp [strOfNums, List.map_take, List.map_drop]
theorem four_part {xs : List Int} {a : Nat} (h : a + 4 ≤ xs.length) : (xs.drop a).take 4 = [xs.getD a 0, xs.getD (a + 1) 0, xs.getD (a + 2) 0, xs.getD (a + 3) 0] := by
  apply List.ext_getElem
  · simp; omega
  · intro i h1 h2
    simp at h2
    match i, h2 with
    | 0, _ => simp [List.getD, List.getElem?_eq_getElem (show a < xs.length by omega)]
    | 1, _ => simp [List.getD, List.getElem?_eq_getElem (show a + 1 < xs.length by omega)]
    | 2, _ => simp [List.getD, List.getElem?_eq_getElem (show a + 2 < xs.length by omega)]
    | 3, _ => simp [List.getD, List.getElem?_eq_getElem (show a + 3 < xs.length by omega)]
theorem or32_join (i : Nat) (x y : Int) (x0 : 0 ≤ x) (x1 : x < 4294967296) (y0 : 0 ≤ y) (y1 : y < 4294967296) (hx : x.toNat % 2 ^ i = 0) (hy : y.toNat < 2 ^ i) : or32 x y = x + y := by
  unfold or32
  rw [u32_or _ _ x0 x1 y0 y1, nat_join i _ _ hx hy]
  omega
theorem four_val (a b c d : Int) (ha : 0 ≤ a ∧ a ≤ 255) (hb : 0 ≤ b ∧ b ≤ 255) (hc : 0 ≤ c ∧ c ≤ 255) (hd : 0 ≤ d ∧ d ≤ 255) : valP (fun i => [a, b, c, d].getD i 0) 4 % 4294967296 = four a b c d := by
  unfold four
  rw [or32_join 24 (a * 16777216) (b * 65536) (by omega) (by omega) (by omega) (by omega) (by omega) (by omega)]
  rw [or32_join 16 (a * 16777216 + b * 65536) (c * 256) (by omega) (by omega) (by omega) (by omega) (by omega) (by omega)]
  rw [or32_join 8 (a * 16777216 + b * 65536 + c * 256) d (by omega) (by omega) (by omega) (by omega) (by omega) (by omega)]
  show ((((0 * 256 + a) * 256 + b) * 256 + c) * 256 + d) % 4294967296 = a * 16777216 + b * 65536 + c * 256 + d
  omega


theorem words_low {W wr : World} {ty : TypeId} {D : Nat → Int} {t : Nat} {v : Int} (h : Old W wr ∧ wr.rowIs (W.heap.size + 1) ty 64 (fun j => .int .u32 (sched D t j))) (hv : v = word D (sched D t) t) :
    Old W (wr.setCell ⟨W.heap.size + 1, t, none⟩ (.int .u32 v)) ∧ (wr.setCell ⟨W.heap.size + 1, t, none⟩ (.int .u32 v)).rowIs (W.heap.size + 1) ty 64 (fun j => .int .u32 (sched D (t + 1) j)) := by
  refine ⟨h.1.setCell (Nat.le_succ _) _, (h.2.set t _).congr fun j _ => ?_⟩
  show (if j = t then Value.int .u32 v else .int .u32 (sched D t j)) = .int .u32 (if j = t then word D (sched D t) t else sched D t j)
  split
  · rw [hv]
  · rfl

theorem words_both {W wr : World} {ty : TypeId} {D : Nat → Int} {t : Nat} {v : Int} {f : Nat → Value} (h : Old W wr ∧ wr.rowIs W.heap.size ty 64 f ∧ wr.rowIs (W.heap.size + 1) ty 64 (fun j => .int .u32 (sched D t j))) (hv : v = word D (sched D t) t) :
    Old W (wr.setCell ⟨W.heap.size + 1, t, none⟩ (.int .u32 v)) ∧ (wr.setCell ⟨W.heap.size + 1, t, none⟩ (.int .u32 v)).rowIs W.heap.size ty 64 f ∧ (wr.setCell ⟨W.heap.size + 1, t, none⟩ (.int .u32 v)).rowIs (W.heap.size + 1) ty 64 (fun j => .int .u32 (sched D (t + 1) j)) :=
  ⟨(words_low ⟨h.1, h.2.2⟩ hv).1, h.2.1.setOther (by simp) _, (words_low ⟨h.1, h.2.2⟩ hv).2⟩
theorem keep_four {w : World} {b t i j k l : Nat} {x y z u v : Value} (h : w.cell? ⟨b, i, none⟩ = some x ∧ w.cell? ⟨b, j, none⟩ = some y ∧ w.cell? ⟨b, k, none⟩ = some z ∧ w.cell? ⟨b, l, none⟩ = some u) (hi : t ≠ i) (hj : t ≠ j) (hk : t ≠ k) (hl : t ≠ l) : (w.setCell ⟨b, t, none⟩ v).cell? ⟨b, i, none⟩ = some x ∧ (w.setCell ⟨b, t, none⟩ v).cell? ⟨b, j, none⟩ = some y ∧ (w.setCell ⟨b, t, none⟩ v).cell? ⟨b, k, none⟩ = some z ∧ (w.setCell ⟨b, t, none⟩ v).cell? ⟨b, l, none⟩ = some u :=
  ⟨(keep_two (v := v) ⟨h.1, h.2.1⟩ hi hj).1, (keep_two (v := v) ⟨h.1, h.2.1⟩ hi hj).2, (keep_two (v := v) ⟨h.2.2.1, h.2.2.2⟩ hk hl).1, (keep_two (v := v) ⟨h.2.2.1, h.2.2.2⟩ hk hl).2⟩
def zero64 : Array Value := arr 64 (fun _ => .int .u32 0)
theorem spread_start (w : World) (t : TypeId) (D : Nat → Int) : Old w ((w.alloc (.cells zero64 t)).alloc (.cells zero64 t)) ∧ ((w.alloc (.cells zero64 t)).alloc (.cells zero64 t)).rowIs w.heap.size t 64 (fun _ => .int .u32 0) ∧ ((w.alloc (.cells zero64 t)).alloc (.cells zero64 t)).rowIs (w.heap.size + 1) t 64 (fun j => .int .u32 (sched D 0 j)) := by
  refine ⟨((Old.refl w).alloc _).alloc _, (row_new w t 64 _).alloc _, ?_⟩
  have h := row_new (w.alloc (.cells zero64 t)) t 64 (fun _ => .int .u32 0)
  have e : (w.alloc (.cells zero64 t)).heap.size = w.heap.size + 1 := by simp
  rw [e] at h
  exact h

set_option maxRecDepth 100000 in
set_option maxHeartbeats 4000000 in
theorem dspread_any (xs : List Int) (w : World) (hx : Bts xs) (hl : xs.length = 64) :
    Calls Try.prog 50 #[.string (strOfNums xs)] w fun e w' => e = .returned (.agg (arr 64 fun i => .int .u32 (sched (fun i => xs.getD i 0) 64 i))) ∧ Old w w' := by
  have hsz : ∀ xs : List Int, (strOfNums xs).size = xs.length := strOfNums_size
  have HX : Hid (Bts xs) := hx
  clear hx
  have HS : Hid (∀ t : Nat, t < 16 → (strOfNums xs).extract (4 * t) (4 * t + 4) = strOfNums [xs.getD (4 * t) 0, xs.getD (4 * t + 1) 0, xs.getD (4 * t + 2) 0, xs.getD (4 * t + 3) 0]) := fun t ht => by
    rw [str_part, show 4 * t + 4 - 4 * t = 4 by omega, four_part (by omega)]
  have HB : Hid (∀ i, 0 ≤ xs.getD i 0 ∧ xs.getD i 0 ≤ 255) := getD_bd HX.out
  go_enter Try.func50, Try.ntmps50
  go_wp2_with fail
  go_loopw [6] (fun iv wx => ∃ t : Nat, iv = .int .i64 (t : Int) ∧ t ≤ 16 ∧ Hid (Old w wx ∧ wx.rowIs w.heap.size 76 64 (fun _ => .int .u32 0) ∧ wx.rowIs (w.heap.size + 1) 76 64 (fun j => .int .u32 (sched (fun i => xs.getD i 0) t j)))) (fun iv _ => 16 - (intOf iv).toNat)
  case atStart => exact ⟨0, rfl, Nat.zero_le _, spread_start w _ _⟩
  case round =>
    obtain ⟨t, rfl, ht, HR⟩ := hrel
    by_cases hlt : t < 16
    · obtain ⟨v, cv⟩ : ∃ v, wr.cell? ⟨w.heap.size + 1, t, none⟩ = some (.int .u32 v) := ⟨_, HR.out.2.2.cell (by omega)⟩
      have fv := HR.out.2.2.frozen t
      have hsl := HS.out t hlt
      have b0 := HB.out (4 * t)
      have b1 := HB.out (4 * t + 1)
      have b2 := HB.out (4 * t + 2)
      have b3 := HB.out (4 * t + 3)
      have HV : Hid (word (fun i => xs.getD i 0) (sched (fun i => xs.getD i 0) t) t = valP (fun i => [xs.getD (4 * t) 0, xs.getD (4 * t + 1) 0, xs.getD (4 * t + 2) 0, xs.getD (4 * t + 3) 0].getD i 0) 4 % 4294967296) := by
        unfold Hid
        rw [word_low hlt, four_val _ _ _ _ b0 b1 b2 b3]
      have HC : Hid (Bts [xs.getD (4 * t) 0, xs.getD (4 * t + 1) 0, xs.getD (4 * t + 2) 0, xs.getD (4 * t + 3) 0]) := by
        intro x hx
        simp at hx
        rcases hx with rfl | rfl | rfl | rfl
        · exact b0
        · exact b1
        · exact b2
        · exact b3
      clear b0 b1 b2 b3
      obtain ⟨ys, hy⟩ : ∃ ys, ys = [xs.getD (4 * t) 0, xs.getD (4 * t + 1) 0, xs.getD (4 * t + 2) 0, xs.getD (4 * t + 3) 0] := ⟨_, rfl⟩
      have ly : ys.length = 4 := by rw [hy]; rfl
      rw [← hy] at HV HC hsl
      clear hy
      have t1 : (4 * (t : Int)).toNat = 4 * t := by omega
      have t2 : (4 * (t : Int) + 4).toNat = 4 * t + 4 := by omega
      go_wp2_with (go_at_call 56; refine (dnum_any ys _ HC.out (by omega)).mono ?_; rintro e w' ⟨rfl, rfl⟩)
      go_roundw
      case rel => exact ⟨t + 1, idx_up t, by omega, words_both HR.out HV.out.symm⟩
      case measure => simp [intOf]; omega
    · have he : t = 16 := by omega
      subst he
      go_wp2_with fail
      go_loopw [5] (fun iv wx => ∃ t : Nat, iv = .int .i64 (t : Int) ∧ 16 ≤ t ∧ t ≤ 64 ∧ Hid (Old w wx ∧ wx.rowIs w.heap.size 76 64 (fun _ => .int .u32 0) ∧ wx.rowIs (w.heap.size + 1) 76 64 (fun j => .int .u32 (sched (fun i => xs.getD i 0) t j)))) (fun iv _ => 64 - (intOf iv).toNat)
      case atStart => exact ⟨16, rfl, by omega, by omega, HR⟩
      case round =>
        obtain ⟨t, rfl, h16, ht2, HR⟩ := hrel
        by_cases hlt : t < 64
        · obtain ⟨v, cv⟩ : ∃ v, wr.cell? ⟨w.heap.size + 1, t, none⟩ = some (.int .u32 v) := ⟨_, HR.out.2.2.cell (by omega)⟩
          have fv := HR.out.2.2.frozen t
          have c16 := HR.out.2.2.cell (i := t - 16) (by omega)
          have c15 := HR.out.2.2.cell (i := t - 15) (by omega)
          have c7 := HR.out.2.2.cell (i := t - 7) (by omega)
          have c2 := HR.out.2.2.cell (i := t - 2) (by omega)
          have HV : Hid (word (fun i => xs.getD i 0) (sched (fun i => xs.getD i 0) t) t = _) := word_high (show ¬ t < 16 by omega)
          generalize sched (fun i => xs.getD i 0) t (t - 16) = s16 at *
          generalize sched (fun i => xs.getD i 0) t (t - 15) = s15 at *
          generalize sched (fun i => xs.getD i 0) t (t - 7) = s7 at *
          generalize sched (fun i => xs.getD i 0) t (t - 2) = s2 at *
          have e16 : ((t : Int) - 16).toNat = t - 16 := by omega
          have e15 : ((t : Int) - 15).toNat = t - 15 := by omega
          have e7 : ((t : Int) - 7).toNat = t - 7 := by omega
          have e2 : ((t : Int) - 2).toNat = t - 2 := by omega
          have f16 : IntKind.i64.wrap ((t : Int) - 16) = (t : Int) - 16 := by rw [IntKind.wrap_i64]; omega
          have f15 : IntKind.i64.wrap ((t : Int) - 15) = (t : Int) - 15 := by rw [IntKind.wrap_i64]; omega
          have f7 : IntKind.i64.wrap ((t : Int) - 7) = (t : Int) - 7 := by rw [IntKind.wrap_i64]; omega
          have f2 : IntKind.i64.wrap ((t : Int) - 2) = (t : Int) - 2 := by rw [IntKind.wrap_i64]; omega
          have g16 : (0 : Int) ≤ (t : Int) - 16 := by omega
          have g15 : (0 : Int) ≤ (t : Int) - 15 := by omega
          have g7 : (0 : Int) ≤ (t : Int) - 7 := by omega
          have g2 : (0 : Int) ≤ (t : Int) - 2 := by omega
          have k16 : (t : Int) - 16 < 64 := by omega
          have k15 : (t : Int) - 15 < 64 := by omega
          have k7 : (t : Int) - 7 < 64 := by omega
          have k2 : (t : Int) - 2 < 64 := by omega
          have tt : (t : Int) < 64 := by omega
          have p16 : (16 : Int) ≤ (t : Int) := by omega
          have p15 : (15 : Int) ≤ (t : Int) := by omega
          have p7 : (7 : Int) ≤ (t : Int) := by omega
          have p2 : (2 : Int) ≤ (t : Int) := by omega
          have q16 : (t : Int) < 80 := by omega
          have q15 : (t : Int) < 79 := by omega
          have q7 : (t : Int) < 71 := by omega
          have q2 : (t : Int) < 66 := by omega
          go_wp2_with fail
          go_region_held3 (fun w' => w'.cell? ⟨w.heap.size + 1, t - 16, none⟩ = some (.int .u32 s16) ∧ w'.cell? ⟨w.heap.size + 1, t - 15, none⟩ = some (.int .u32 s15) ∧ w'.cell? ⟨w.heap.size + 1, t - 7, none⟩ = some (.int .u32 s7) ∧ w'.cell? ⟨w.heap.size + 1, t - 2, none⟩ = some (.int .u32 s2)) (first | go_keep | exact keep_four (by assumption) (by omega) (by omega) (by omega) (by omega)) (first
            | (go_at_call_of 57 (Value.int IntKind.i64 7); refine (dshift_any _ 7 18 3 _ (by omega) (by omega) (by omega)).mono ?_; rintro e w' ⟨rfl, nd, rfl⟩)
            | (go_at_call_of 57 (Value.int IntKind.i64 17); refine (dshift_any _ 17 19 10 _ (by omega) (by omega) (by omega)).mono ?_; rintro e w' ⟨rfl, nd, rfl⟩))
          simp only [IntKind.wrap_u32']
          go_wp2_with fail
          go_roundw
          case rel =>
            (repeat apply Exists.intro)
            exact ⟨⟨t + 1, by go_num, by omega, by omega, words_both ⟨HR.out.1.drewN _, HR.out.2⟩ (by rw [HV.out, add_four]; rfl)⟩, rfl⟩
          case measure => simp [intOf]; omega
        · have he : t = 64 := by omega
          subst he
          go_upto_region 11 with fail
          refine wp_region_lit ?_
          refine wpList_load_row rfl 76 (.tmp 3) rfl (w.heap.size + 1) rfl _ _ (0, 0) _ (row_arr HR.out.2.2) Try.underlying76 rfl (by rw [arr_size]; exact info64) ?_
          refine wpList_store_row rfl 76 _ _ rfl w.heap.size (arr 64 fun i => .int .u32 (sched (fun i => xs.getD i 0) 64 i)) rfl rfl _ _ (row_arr HR.out.2.1) (by rw [arr_size]; exact info64) (by rw [arr_size, arr_size]) (arr_one _) ?_
          refine wpList_nil ?_
          go_wp2_with fail
          refine bodyPost_ret (v := .agg (arr 64 fun i => .int .u32 (sched (fun i => xs.getD i 0) 64 i))) (results_cell (b := w.heap.size) rfl rfl (load_arr (row_set HR.out.2.1 _) Try.underlying76 info64)) rfl ⟨rfl, HR.out.1.setRow (Nat.le_refl _) _⟩

end Go.Proofs.Ytljfjjfckepkdab
