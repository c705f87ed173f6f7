/-
  What the proof needs, part 15.
-/
import Derived.Test.YtlnmjbbpenhdbaaGreatKp08
namespace Go.Proofs.YtlnmjbbpenhdbaaGreat
open Tryz
open List renaming drop_zero → Ld0
open Tryz renaming underlying5 → U5, underlying9 → U9, underlying152 → U152, underlying164 → U164, underlying175 → U175
set_option linter.unusedSimpArgs false
set_option linter.unusedVariables false
set_option maxRecDepth 100000
set_option maxHeartbeats 32000000
section
open Go.RowKit
theorem turn_bits : ∀ n : Fin 32, 0 < n.val -> bits .and .u64 (18446744073709551616 - (n.val : Int)) 31 = 32 - (n.val : Int) := by decide +kernel
theorem or32_comm (a b : Int) : or32 a b = or32 b a := by
 unfold or32 bits
 simp only [BitVec.or_comm]
theorem zfu (x : Int) (n : Nat) (w : World) (n0 : 0 < n) (n1 : n < 32) :
  Calls prog 173 #[.int .u32 x, .int .i64 (-(n : Int))] w fun e w' => e = .returned (.int .u32 (rot x n)) /\ w' = w := by
 have hb := turn_bits ⟨n, n1⟩ n0
 have hw : IntKind.u64.wrap (-(n : Int)) = 18446744073709551616 - (n : Int) := by
  unfold IntKind.wrap
  rw [show IntKind.u64.bits = 64 from rfl]
  simp [IntKind.signed]
  omega
 go_enter func173, ntmps173
 go_wp2_with fail
 go_ret
 refine ⟨?_, rfl⟩
 rw [show 32 - (32 - n) = n by omega]
 exact congrArg (fun a => Ending.returned (.int .u32 a)) (or32_comm _ _)
theorem zgg (x : Int) (i j k : Nat) (w : World) (hi : 0 < i /\ i < 32) (hj : 0 < j /\ j < 32) (hk : 0 < k /\ k < 32) :
  Calls prog 165 #[.int .u32 x, .int .i64 (i : Int), .int .i64 (j : Int), .int .i64 (k : Int)] w fun e w' => e = .returned (.int .u32 (xor32 (xor32 (rot x i) (rot x j)) (rot x k))) /\ w' = w := by
 go_enter func165, ntmps165
 go_wp2_with (first
  | (go_at_call_of 173 (Value.int IntKind.i64 (-(i : Int))); refine (zfu x i _ hi.1 hi.2).mono ?_)
  | (go_at_call_of 173 (Value.int IntKind.i64 (-(j : Int))); refine (zfu x j _ hj.1 hj.2).mono ?_)
  | (go_at_call_of 173 (Value.int IntKind.i64 (-(k : Int))); refine (zfu x k _ hk.1 hk.2).mono ?_))
 rintro e w' ⟨rfl, rfl⟩
 go_wp2_with (first
  | (go_at_call_of 173 (Value.int IntKind.i64 (-(j : Int))); refine (zfu x j _ hj.1 hj.2).mono ?_))
 rintro e w' ⟨rfl, rfl⟩
 go_wp2_with (first
  | (go_at_call_of 173 (Value.int IntKind.i64 (-(k : Int))); refine (zfu x k _ hk.1 hk.2).mono ?_))
 rintro e w' ⟨rfl, rfl⟩
 go_wp2_with fail
 go_ret
 exact ⟨rfl, rfl⟩
theorem zeT (x : Int) (i j k : Nat) (w : World) (hi : 0 < i /\ i < 32) (hj : 0 < j /\ j < 32) (hk : 0 < k /\ k < 32) :
  Calls prog 172 #[.int .u32 x, .int .i64 (i : Int), .int .i64 (j : Int), .int .i64 (k : Int)] w fun e w' => e = .returned (.int .u32 (xor32 (xor32 (rot x i) (rot x j)) (x / 2 ^ k))) /\ ∃ n, w' = w.drewN n := by
 have k0 : (0 : Int) <= (k : Int) := by omega
 go_enter func172, ntmps172
 go_wp2_with fail
 go_quiet (first
  | (go_at_call_of 173 (Value.int IntKind.i64 (-(i : Int))); exact Calls.quiet_of_same (zfu x i _ hi.1 hi.2))
  | (go_at_call_of 173 (Value.int IntKind.i64 (-(j : Int))); exact Calls.quiet_of_same (zfu x j _ hj.1 hj.2)))
 go_wp2
 go_ret
 exact ⟨rfl, _, rfl⟩
theorem dchoice_any (x y z : Int) (w : World) :
  Calls prog 166 #[.int .u32 x, .int .u32 y, .int .u32 z] w fun e w' => e = .returned (.int .u32 (pick x y z)) /\ w' = w := by
 go_enter func166, ntmps166
 go_wp2_with fail
 go_ret
 exact ⟨rfl, rfl⟩
theorem dmost_any (x y z : Int) (w : World) :
  Calls prog 167 #[.int .u32 x, .int .u32 y, .int .u32 z] w fun e w' => e = .returned (.int .u32 (most x y z)) /\ w' = w := by
 go_enter func167, ntmps167
 go_wp2_with fail
 go_ret
 exact ⟨rfl, rfl⟩
def valP (X : NI) : Nat -> Int
 | 0 => 0
 | i + 1 => valP X i * 256 + X i
theorem valP_bd {X : NI} (h : ∀ i, 0 <= X i /\ X i <= 255) : ∀ i, 0 <= valP X i /\ valP X i < 256 ^ i
 | 0 => by show (0 : Int) <= 0 /\ (0 : Int) < 256 ^ 0; omega
 | i + 1 => by
  have h1 := valP_bd h i
  have h2 := h i
  show (0 : Int) <= valP X i * 256 + X i /\ valP X i * 256 + X i < 256 ^ (i + 1)
  rw [Int.pow_succ]
  generalize (256 : Int) ^ i = m at *
  omega
theorem pow_le8 {i : Nat} (h : i <= 7) : (256 : Int) ^ i <= 72057594037927936 := by
 match i, h with
 | 0, _ => decide
 | 1, _ => decide
 | 2, _ => decide
 | 3, _ => decide
 | 4, _ => decide
 | 5, _ => decide
 | 6, _ => decide
 | 7, _ => decide
theorem join_byte (n x : Int) (n0 : 0 <= n) (n1 : n < 72057594037927936) (x0 : 0 <= x) (x1 : x <= 255) : bits .or .u64 (n * 256 % 18446744073709551616) x = n * 256 + x := by
 rw [Int.emod_eq_of_lt (by omega) (by omega), u64_or _ _ (by omega) (by omega) (by omega) (by omega), nat_join 8 _ _ (by omega) (by omega)]
 omega
theorem dnum_any (xs : List Int) (w : World) (hx : Bts xs) (hl : xs.length <= 8) :
  Calls prog 146 #[.string (strOfNums xs)] w fun e w' => e = .returned (.int .u64 (valP (fun i => xs.getD i 0) xs.length)) /\ w' = w := by
 have hsz : ∀ xs : List Int, (strOfNums xs).size = xs.length := strOfNums_size
 have HX : Hid (Bts xs) := hx
 clear hx
 go_enter func146, ntmps146
 go_wp2_with fail
 go_loopw [3, 7] (fun nv iv wx => ∃ i : Nat, iv = .int .i64 (i : Int) /\ i <= xs.length /\ nv = .int .u64 (valP (fun i => xs.getD i 0) i) /\ wx = w) (fun _ iv _ => xs.length - (intOf iv).toNat)
 case atStart => exact ⟨0, rfl, Nat.zero_le _, rfl, rfl⟩
 case round =>
  obtain ⟨i, rfl, hi, rfl, rfl⟩ := hrel
  by_cases hlt : i < xs.length
  ·have hix := str_index HX.out (i := i) (by rw [strOfNums_size]; omega)
   obtain ⟨e0, e1⟩ := zco HX.out i
   obtain ⟨g0, g1⟩ := valP_bd (zco HX.out) i
   have g2 := pow_le8 (show i <= 7 by omega)
   have HF : Hid (valP (fun i => xs.getD i 0) (i + 1) = valP (fun i => xs.getD i 0) i * 256 + xs.getD i 0) := rfl
   generalize valP (fun i => xs.getD i 0) i = x at *
   have hj := join_byte x (xs.getD i 0) g0 (by omega) e0 e1
   have HJ : Hid (bits .or .u64 (x * 256 % 18446744073709551616) (xs.getD i 0) = x * 256 + xs.getD i 0) := hj
   clear hj g1 g2
   generalize xs.getD i 0 = y at *
   have hw : IntKind.u64.wrap y = y := by rw [IntKind.wrap_u64]; omega
   go_wp2_with fail
   go_roundw
   case rel => exact ⟨i + 1, zdd i, by omega, by rw [HF.out]; exact congrArg (Value.int .u64) HJ.out, trivial⟩
   case measure => simp [intOf]; omega
  ·have he : i = xs.length := by omega
   subst he
   go_wp2_with fail
   go_ret
   exact ⟨rfl, rfl⟩
theorem byte_step (n : Int) (j : Nat) : n / 2 ^ (8 * j) / 256 = n / 2 ^ (8 * (j + 1)) := by
 rw [Int.ediv_ediv_of_nonneg (by exact Int.pow_nonneg (by omega)), show 8 * (j + 1) = 8 * j + 8 by omega, Int.pow_add]
 rfl
def zb0 (n : Int) (k j t : Nat) : Value := .int .u8 (if k - j <= t then zbk n (k - 1 - t) else 0)
theorem bytesAt_step {W wr : World} {ty : TypeId} {n : Int} {k j : Nat} (hj : j < k) {x : Int} (hx : x = zbk n j) (h : Old W wr /\ wr.rowIs W.heap.size ty k (zb0 n k j)) :
  Old W (wr.setCell ⟨W.heap.size, k - 1 - j, none⟩ (.int .u8 x)) /\ (wr.setCell ⟨W.heap.size, k - 1 - j, none⟩ (.int .u8 x)).rowIs W.heap.size ty k (zb0 n k (j + 1)) := by
 refine ⟨h.1.setCell (Nat.le_refl _) _, (h.2.set (k - 1 - j) _).congr fun t ht => ?_⟩
 unfold zb0
 by_cases he : t = k - 1 - j
 ·subst he
  rw [if_pos rfl, if_pos (by omega), hx, show k - 1 - (k - 1 - j) = j by omega]
 ·rw [if_neg he]
  by_cases hl : k - j <= t
  ·rw [if_pos hl, if_pos (by omega)]
  ·rw [if_neg hl, if_neg (by omega)]
theorem bytesAt_start (W : World) (ty : TypeId) (n : Int) (k : Nat) : Old W (W.alloc (.cells (madeCells #[.int .u8 0] k) ty)) /\ (W.alloc (.cells (madeCells #[.int .u8 0] k) ty)).rowIs W.heap.size ty k (zb0 n k 0) :=
 ⟨(Old.refl W).alloc _, (World.rowIs_made W (.int .u8 0) k ty).congr fun t ht => by unfold zb0; rw [if_neg (by omega)]⟩
theorem bytesAt_text {P : Program} {b : Nat} {wr : World} {src e ty : TypeId} {n : Int} {k : Nat} (hs : P.underlying src = some (.slice e)) (he : P.underlying e = some (.int .u8)) (hr : wr.rowIs b ty k (zb0 n k k)) (dst : TypeId) (hd : P.underlying dst = some .string) :
  (convert src dst (.slice (some ⟨b, 0, none⟩) k k)).run P wr = .ok (.string (strOfNums (zap n k))) wr :=
 run_convert_bytes_arg wr src e hs he b 0 k k (zap n k) (zal n k) (fun i hi => by
  rw [Nat.zero_add, hr.cell hi]
  unfold zb0 zap zaY
  rw [if_pos (by omega)]
  simp [hi]) dst hd
theorem zf4 (n : Int) (k : Nat) (w : World) (hk : k <= 8) (hk0 : 0 < k) :
  Calls prog 154 #[.int .u64 n, .int .i64 (k : Int)] w fun e w' => e = .returned (.string (strOfNums (zap n k))) /\ Old w w' := by
 have hmk : ∀ wx, (Instr.makeSlice 152 (.int .i64 (k : Int)) (.int .i64 (k : Int))).run prog wx = .ok (.slice (some ⟨wx.heap.size, 0, none⟩) k k) (wx.alloc (.cells (madeCells #[.int .u8 0] k) 5)) := run_make_row' (P := prog) 152 5 (.int .u8 0) 1 U152 zeP rfl .i64 .i64 k (by omega) (by omega)
 go_enter func154, ntmps154
 go_wp2_with fail
 go_loopw [0, 6] (fun nv iv wx => ∃ j r : Nat, j + r = k /\ iv = .int .i64 ((r : Int) - 1) /\ nv = .int .u64 (n / 2 ^ (8 * j)) /\ Hid (Old w wx /\ wx.rowIs w.heap.size 5 k (zb0 n k j))) (fun _ iv _ => (intOf iv + 1).toNat)
 case atStart => exact ⟨0, k, by omega, rfl, by simp, bytesAt_start w _ n k⟩
 case round =>
  obtain ⟨j, r, hjr, rfl, rfl, HR⟩ := hrel
  cases r with
  | zero =>
   obtain rfl : j = k := by omega
   have hcv := bytesAt_text U152 U5 HR.out.2 9 U9
   go_wp2_with fail
   go_ret
   exact ⟨rfl, HR.out.1⟩
  | succ q =>
   have eq : ((q + 1 : Nat) : Int) - 1 = (q : Int) := by omega
   simp only [eq]
   clear eq
   have hq : q = k - 1 - j := by omega
   have q0 : (0 : Int) <= (q : Int) := by omega
   have qk : (q : Int) < (k : Int) := by omega
   obtain ⟨vq, cq⟩ : ∃ v, wr.cell? ⟨w.heap.size, q, none⟩ = some (.int .u8 v) := ⟨_, HR.out.2.cell (i := q) (by omega)⟩
   have fq := HR.out.2.frozen q
   have hw : IntKind.u8.wrap (n / 2 ^ (8 * j)) = zbk n j := IntKind.wrap_u8' _
   have HS : Hid (n / 2 ^ (8 * j) / 256 = n / 2 ^ (8 * (j + 1))) := byte_step n j
   have HT := bytesAt_step (x := zbk n j) (show j < k by omega) rfl HR.out
   rw [<- hq] at HT
   clear hq
   have HT : Hid (Old w (wr.setCell ⟨w.heap.size, q, none⟩ (.int .u8 (zbk n j))) /\ (wr.setCell ⟨w.heap.size, q, none⟩ (.int .u8 (zbk n j))).rowIs w.heap.size 5 k (zb0 n k (j + 1))) := HT
   generalize n / 2 ^ (8 * j) = m at *
   go_wp2_with fail
   go_roundw
   case rel => exact ⟨j + 1, q, by omega, rfl, by rw [<- HS.out], HT⟩
   case measure => simp [intOf]
def arr (n : Nat) (f : Nat -> Value) : Array Value := ((List.range n).map f).toArray
theorem zam (n : Nat) (f : Nat -> Value) : (arr n f).size = n := by simp [arr]
theorem zgc {n : Nat} {f : Nat -> Value} {i : Nat} (h : i < n) : (arr n f)[i]? = some (f i) := by simp [arr, h]
theorem arr_of {n : Nat} {f : Nat -> Value} {c : Array Value} (hs : c.size = n) (h : ∀ i, i < n -> c[i]? = some (f i)) : c = arr n f := by
 apply Array.ext_getElem?
 intro i
 by_cases hi : i < n
 ·rw [h i hi, zgc hi]
 ·rw [Array.getElem?_eq_none (by omega), Array.getElem?_eq_none (by rw [zam]; omega)]
theorem arr_congr {n : Nat} {f g : Nat -> Value} (h : ∀ i, i < n -> f i = g i) : arr n f = arr n g :=
 arr_of (zam _ _) fun i hi => by rw [zgc hi, h i hi]
theorem zb8 {w : World} {b : Nat} {t : TypeId} {n : Nat} {f : Nat -> Value} (h : w.rowIs b t n f) : w.heap[b]? = some (.cells (arr n f) t (0, 0)) := by
 obtain ⟨c, hb, hn, hc⟩ := h
 rw [hb, arr_of hn hc]
theorem zbA (w : World) (t : TypeId) (n : Nat) (f : Nat -> Value) : (w.alloc (.cells (arr n f) t)).rowIs w.heap.size t n f := by
 have := World.rowIs_alloc w (arr n f) t f (fun i hi => zgc (by rwa [zam] at hi))
 rwa [zam] at this
theorem zda {P : Program} {w : World} {b : Nat} {t ty e : TypeId} {n : Nat} {f : Nat -> Value} (h : w.rowIs b t n f) (hu : P.underlying ty = some (.array n e)) (hi : (P.info? ty).map (·.size) = some n) :
  (loadVar ty ⟨b, 0, none⟩).run P w = .ok (.agg (arr n f)) w :=
 run_loadVar_row w b t ty (arr n f) (0, 0) _ (zb8 h) hu rfl (by rw [zam]; exact hi)
theorem zfJ {n : Nat} {k : IntKind} (f : NI) : (arr n fun i => .int k (f i)).all (·.oneCell') = true := by
 rw [Array.all_eq_true]
 intro i hi
 have h2 : i < n := by rwa [zam] at hi
 have h3 := zgc (f := fun i => Value.int k (f i)) h2
 rw [Array.getElem?_eq_getElem hi] at h3
 injection h3 with h3
 rw [h3]
 rfl
theorem zdz {w : World} {b : Nat} {t : TypeId} {n : Nat} {f : Nat -> Value} (h : w.rowIs b t n f) (g : Nat -> Value) : (w.setRow b (arr n g)).rowIs b t n g := by
 refine ⟨arr n g, ?_, zam _ _, fun i hi => zgc hi⟩
 have := zb8 h
 simp only [World.setRow]
 rw [Array.getElem?_modify, if_pos rfl, this]
 rfl
theorem Old.setRow {a w : World} (h : Old a w) {b : Nat} (hb : a.heap.size <= b) (c : Array Value) : Old a (w.setRow b c) :=
 ⟨h.os, h.output, by simpa [World.setRow] using h.size, fun k hk => by
  simp only [World.setRow]
  rw [Array.getElem?_modify, if_neg (by omega)]
  exact h.block k hk⟩
theorem zbQ {P : Program} {w : World} {b : Nat} {t : TypeId} {n : Nat} {f : Nat -> Value} {k : IntKind} {g : NI} (h : w.rowIs b t n f) : (storeCells ⟨b, 0, none⟩ (arr n fun i => .int k (g i)).toList 0).run P w = .ok () (w.setRow b (arr n fun i => .int k (g i))) := by
 have := run_storeCells_from (P := P) b t (arr n fun i => .int k (g i)).toList 0 (arr n f) w (zb8 h) (by simp [zam]) (fun v hv => (Array.all_eq_true_iff_forall_mem.1 (zfJ g)) v (by simpa using hv))
 simpa using this
theorem zfC {P : Program} {fn : Func} {s : Tmp} {t : TypeId} {tmps : Array Value} {w : World} {b : Nat} {v : Value} (h : fn.results = #[.cell s t]) (hp : tmps[s]? = some (.pointer (some ⟨b, 0, none⟩))) (hl : (loadVar t ⟨b, 0, none⟩).run P w = .ok v w) : (results fn tmps).run P w = .ok v w := by
 simp [results, h, hp, asAddr, hl]
theorem info8 : (prog.info? 164).map (·.size) = some 8 := by kernel_rfl
theorem zgl : (prog.info? 175).map (·.size) = some 64 := by kernel_rfl
theorem dfirst_any (w : World) : Calls prog 156 #[] w fun e w' => e = .returned (.agg (arr 8 fun i => .int .u32 (hS i))) /\ Old w w' := by
 go_enter func156, ntmps156
 go_wp2_with fail
 refine bodyPost_ret (v := .agg (arr 8 fun i => .int .u32 (hS i))) (zfC rfl rfl (zda (World.rowIs_alloc w _ _ (fun i => .int .u32 (hS i)) (fun i hi => ?_)) U164 info8)) rfl ⟨rfl, (Old.refl _).alloc _⟩
 match i, hi with
 | 0, _ => rfl
 | 1, _ => rfl
 | 2, _ => rfl
 | 3, _ => rfl
 | 4, _ => rfl
 | 5, _ => rfl
 | 6, _ => rfl
 | 7, _ => rfl
theorem zf2 (xs : List Int) (a b : Nat) : (strOfNums xs).extract a b = strOfNums ((xs.drop a).take (b - a)) := by
 apply ByteArray.ext
 rw [ByteArray.data_extract]
 apply Array.ext'
 simp [strOfNums, List.map_take, List.map_drop]
theorem four_part {xs : List Int} {a : Nat} (h : a + 4 <= xs.length) : (xs.drop a).take 4 = [xs.getD a 0, xs.getD (a + 1) 0, xs.getD (a + 2) 0, xs.getD (a + 3) 0] := by
 apply List.ext_getElem
 ·simp; omega
 ·intro i h1 h2
  simp at h2
  match i, h2 with
  | 0, _ => simp [List.getD, List.getElem?_eq_getElem (show a < xs.length by omega)]
  | 1, _ => simp [List.getD, List.getElem?_eq_getElem (show a + 1 < xs.length by omega)]
  | 2, _ => simp [List.getD, List.getElem?_eq_getElem (show a + 2 < xs.length by omega)]
  | 3, _ => simp [List.getD, List.getElem?_eq_getElem (show a + 3 < xs.length by omega)]
theorem zeq (i : Nat) (x y : Int) (x0 : 0 <= x) (x1 : x < 4294967296) (y0 : 0 <= y) (y1 : y < 4294967296) (hx : x.toNat % 2 ^ i = 0) (hy : y.toNat < 2 ^ i) : or32 x y = x + y := by
 unfold or32
 rw [u32_or _ _ x0 x1 y0 y1, nat_join i _ _ hx hy]
 omega
theorem four_val (a b c d : Int) (ha : 0 <= a /\ a <= 255) (hb : 0 <= b /\ b <= 255) (hc : 0 <= c /\ c <= 255) (hd : 0 <= d /\ d <= 255) : valP (fun i => [a, b, c, d].getD i 0) 4 % 4294967296 = four a b c d := by
 unfold four
 rw [zeq 24 (a * 16777216) (b * 65536) (by omega) (by omega) (by omega) (by omega) (by omega) (by omega)]
 rw [zeq 16 (a * 16777216 + b * 65536) (c * 256) (by omega) (by omega) (by omega) (by omega) (by omega) (by omega)]
 rw [zeq 8 (a * 16777216 + b * 65536 + c * 256) d (by omega) (by omega) (by omega) (by omega) (by omega) (by omega)]
 show ((((0 * 256 + a) * 256 + b) * 256 + c) * 256 + d) % 4294967296 = a * 16777216 + b * 65536 + c * 256 + d
 omega
theorem words_low {W wr : World} {ty : TypeId} {D : NI} {t : Nat} {v : Int} (h : Old W wr /\ wr.rowIs (W.heap.size + 1) ty 64 (fun j => .int .u32 (sched D t j))) (hv : v = word D (sched D t) t) :
  Old W (wr.setCell ⟨W.heap.size + 1, t, none⟩ (.int .u32 v)) /\ (wr.setCell ⟨W.heap.size + 1, t, none⟩ (.int .u32 v)).rowIs (W.heap.size + 1) ty 64 (fun j => .int .u32 (sched D (t + 1) j)) := by
 refine ⟨h.1.setCell (Nat.le_succ _) _, (h.2.set t _).congr fun j _ => ?_⟩
 show (if j = t then Value.int .u32 v else .int .u32 (sched D t j)) = .int .u32 (if j = t then word D (sched D t) t else sched D t j)
 split
 ·rw [hv]
 ·rfl
theorem zfl {W wr : World} {ty : TypeId} {D : NI} {t : Nat} {v : Int} {f : Nat -> Value} (h : Old W wr /\ wr.rowIs W.heap.size ty 64 f /\ wr.rowIs (W.heap.size + 1) ty 64 (fun j => .int .u32 (sched D t j))) (hv : v = word D (sched D t) t) :
  Old W (wr.setCell ⟨W.heap.size + 1, t, none⟩ (.int .u32 v)) /\ (wr.setCell ⟨W.heap.size + 1, t, none⟩ (.int .u32 v)).rowIs W.heap.size ty 64 f /\ (wr.setCell ⟨W.heap.size + 1, t, none⟩ (.int .u32 v)).rowIs (W.heap.size + 1) ty 64 (fun j => .int .u32 (sched D (t + 1) j)) :=
 ⟨(words_low ⟨h.1, h.2.2⟩ hv).1, h.2.1.setOther (by simp) _, (words_low ⟨h.1, h.2.2⟩ hv).2⟩
theorem keep_four {w : World} {b t i j k l : Nat} {x y z u v : Value} (h : w.cell? ⟨b, i, none⟩ = some x /\ w.cell? ⟨b, j, none⟩ = some y /\ w.cell? ⟨b, k, none⟩ = some z /\ w.cell? ⟨b, l, none⟩ = some u) (hi : t ≠ i) (hj : t ≠ j) (hk : t ≠ k) (hl : t ≠ l) : (w.setCell ⟨b, t, none⟩ v).cell? ⟨b, i, none⟩ = some x /\ (w.setCell ⟨b, t, none⟩ v).cell? ⟨b, j, none⟩ = some y /\ (w.setCell ⟨b, t, none⟩ v).cell? ⟨b, k, none⟩ = some z /\ (w.setCell ⟨b, t, none⟩ v).cell? ⟨b, l, none⟩ = some u :=
 ⟨(zc6 (v := v) ⟨h.1, h.2.1⟩ hi hj).1, (zc6 (v := v) ⟨h.1, h.2.1⟩ hi hj).2, (zc6 (v := v) ⟨h.2.2.1, h.2.2.2⟩ hk hl).1, (zc6 (v := v) ⟨h.2.2.1, h.2.2.2⟩ hk hl).2⟩
def zdN : Array Value := arr 64 (fun _ => .int .u32 0)
theorem spread_start (w : World) (t : TypeId) (D : NI) : Old w ((w.alloc (.cells zdN t)).alloc (.cells zdN t)) /\ ((w.alloc (.cells zdN t)).alloc (.cells zdN t)).rowIs w.heap.size t 64 (fun _ => .int .u32 0) /\ ((w.alloc (.cells zdN t)).alloc (.cells zdN t)).rowIs (w.heap.size + 1) t 64 (fun j => .int .u32 (sched D 0 j)) := by
 refine ⟨((Old.refl w).alloc _).alloc _, (zbA w t 64 _).alloc _, ?_⟩
 have h := zbA (w.alloc (.cells zdN t)) t 64 (fun _ => .int .u32 0)
 have e : (w.alloc (.cells zdN t)).heap.size = w.heap.size + 1 := by simp
 rw [e] at h
 exact h
theorem dspread_any (xs : List Int) (w : World) (hx : Bts xs) (hl : xs.length = 64) :
  Calls prog 164 #[.string (strOfNums xs)] w fun e w' => e = .returned (.agg (arr 64 fun i => .int .u32 (sched (fun i => xs.getD i 0) 64 i))) /\ Old w w' := by
 have hsz : ∀ xs : List Int, (strOfNums xs).size = xs.length := strOfNums_size
 have HX : Hid (Bts xs) := hx
 clear hx
 have HS : Hid (∀ t : Nat, t < 16 -> (strOfNums xs).extract (4 * t) (4 * t + 4) = strOfNums [xs.getD (4 * t) 0, xs.getD (4 * t + 1) 0, xs.getD (4 * t + 2) 0, xs.getD (4 * t + 3) 0]) := fun t ht => by
  rw [zf2, show 4 * t + 4 - 4 * t = 4 by omega, four_part (by omega)]
 have HB : Hid (∀ i, 0 <= xs.getD i 0 /\ xs.getD i 0 <= 255) := zco HX.out
 go_enter func164, ntmps164
 go_wp2_with fail
 go_loopw [6] (fun iv wx => ∃ t : Nat, iv = .int .i64 (t : Int) /\ t <= 16 /\ Hid (Old w wx /\ wx.rowIs w.heap.size 175 64 (fun _ => .int .u32 0) /\ wx.rowIs (w.heap.size + 1) 175 64 (fun j => .int .u32 (sched (fun i => xs.getD i 0) t j)))) (fun iv _ => 16 - (intOf iv).toNat)
 case atStart => exact ⟨0, rfl, Nat.zero_le _, spread_start w _ _⟩
 case round =>
  obtain ⟨t, rfl, ht, HR⟩ := hrel
  by_cases hlt : t < 16
  ·obtain ⟨v, cv⟩ : ∃ v, wr.cell? ⟨w.heap.size + 1, t, none⟩ = some (.int .u32 v) := ⟨_, HR.out.2.2.cell (by omega)⟩
   have fv := HR.out.2.2.frozen t
   have hsl := HS.out t hlt
   have b0 := HB.out (4 * t)
   have b1 := HB.out (4 * t + 1)
   have b2 := HB.out (4 * t + 2)
   have b3 := HB.out (4 * t + 3)
   have HV : Hid (word (fun i => xs.getD i 0) (sched (fun i => xs.getD i 0) t) t = valP (fun i => [xs.getD (4 * t) 0, xs.getD (4 * t + 1) 0, xs.getD (4 * t + 2) 0, xs.getD (4 * t + 3) 0].getD i 0) 4 % 4294967296) := by
    unfold Hid
    rw [word_low hlt, four_val _ _ _ _ b0 b1 b2 b3]
   have HC : Hid (Bts [xs.getD (4 * t) 0, xs.getD (4 * t + 1) 0, xs.getD (4 * t + 2) 0, xs.getD (4 * t + 3) 0]) := by
    intro x hx
    simp at hx
    rcases hx with rfl | rfl | rfl | rfl
    ·exact b0
    ·exact b1
    ·exact b2
    ·exact b3
   clear b0 b1 b2 b3
   obtain ⟨ys, hy⟩ : ∃ ys, ys = [xs.getD (4 * t) 0, xs.getD (4 * t + 1) 0, xs.getD (4 * t + 2) 0, xs.getD (4 * t + 3) 0] := ⟨_, rfl⟩
   have ly : ys.length = 4 := by rw [hy]; rfl
   rw [<- hy] at HV HC hsl
   clear hy
   have t1 : (4 * (t : Int)).toNat = 4 * t := by omega
   have t2 : (4 * (t : Int) + 4).toNat = 4 * t + 4 := by omega
   go_wp2_with (go_at_call 146; refine (dnum_any ys _ HC.out (by omega)).mono ?_; rintro e w' ⟨rfl, rfl⟩)
   go_roundw
   case rel => exact ⟨t + 1, zdd t, by omega, zfl HR.out HV.out.symm⟩
   case measure => simp [intOf]; omega
  ·have he : t = 16 := by omega
   subst he
   go_wp2_with fail
   go_loopw [5] (fun iv wx => ∃ t : Nat, iv = .int .i64 (t : Int) /\ 16 <= t /\ t <= 64 /\ Hid (Old w wx /\ wx.rowIs w.heap.size 175 64 (fun _ => .int .u32 0) /\ wx.rowIs (w.heap.size + 1) 175 64 (fun j => .int .u32 (sched (fun i => xs.getD i 0) t j)))) (fun iv _ => 64 - (intOf iv).toNat)
   case atStart => exact ⟨16, rfl, by omega, by omega, HR⟩
   case round =>
    obtain ⟨t, rfl, h16, ht2, HR⟩ := hrel
    by_cases hlt : t < 64
    ·obtain ⟨v, cv⟩ : ∃ v, wr.cell? ⟨w.heap.size + 1, t, none⟩ = some (.int .u32 v) := ⟨_, HR.out.2.2.cell (by omega)⟩
     have fv := HR.out.2.2.frozen t
     have c16 := HR.out.2.2.cell (i := t - 16) (by omega)
     have c15 := HR.out.2.2.cell (i := t - 15) (by omega)
     have c7 := HR.out.2.2.cell (i := t - 7) (by omega)
     have c2 := HR.out.2.2.cell (i := t - 2) (by omega)
     have HV : Hid (word (fun i => xs.getD i 0) (sched (fun i => xs.getD i 0) t) t = _) := zeD (show ¬ t < 16 by omega)
     generalize sched (fun i => xs.getD i 0) t (t - 16) = s16 at *
     generalize sched (fun i => xs.getD i 0) t (t - 15) = s15 at *
     generalize sched (fun i => xs.getD i 0) t (t - 7) = s7 at *
     generalize sched (fun i => xs.getD i 0) t (t - 2) = s2 at *
     have e16 : ((t : Int) - 16).toNat = t - 16 := by omega
     have e15 : ((t : Int) - 15).toNat = t - 15 := by omega
     have e7 : ((t : Int) - 7).toNat = t - 7 := by omega
     have e2 : ((t : Int) - 2).toNat = t - 2 := by omega
     have f16 : IntKind.i64.wrap ((t : Int) - 16) = (t : Int) - 16 := by rw [IntKind.wrap_i64]; omega
     have f15 : IntKind.i64.wrap ((t : Int) - 15) = (t : Int) - 15 := by rw [IntKind.wrap_i64]; omega
     have f7 : IntKind.i64.wrap ((t : Int) - 7) = (t : Int) - 7 := by rw [IntKind.wrap_i64]; omega
     have f2 : IntKind.i64.wrap ((t : Int) - 2) = (t : Int) - 2 := by rw [IntKind.wrap_i64]; omega
     have g16 : (0 : Int) <= (t : Int) - 16 := by omega
     have g15 : (0 : Int) <= (t : Int) - 15 := by omega
     have g7 : (0 : Int) <= (t : Int) - 7 := by omega
     have g2 : (0 : Int) <= (t : Int) - 2 := by omega
     have k16 : (t : Int) - 16 < 64 := by omega
     have k15 : (t : Int) - 15 < 64 := by omega
     have k7 : (t : Int) - 7 < 64 := by omega
     have k2 : (t : Int) - 2 < 64 := by omega
     have tt : (t : Int) < 64 := by omega
     have p16 : (16 : Int) <= (t : Int) := by omega
     have p15 : (15 : Int) <= (t : Int) := by omega
     have p7 : (7 : Int) <= (t : Int) := by omega
     have p2 : (2 : Int) <= (t : Int) := by omega
     have q16 : (t : Int) < 80 := by omega
     have q15 : (t : Int) < 79 := by omega
     have q7 : (t : Int) < 71 := by omega
     have q2 : (t : Int) < 66 := by omega
     go_wp2_with fail
     go_region_held3 (fun w' => w'.cell? ⟨w.heap.size + 1, t - 16, none⟩ = some (.int .u32 s16) /\ w'.cell? ⟨w.heap.size + 1, t - 15, none⟩ = some (.int .u32 s15) /\ w'.cell? ⟨w.heap.size + 1, t - 7, none⟩ = some (.int .u32 s7) /\ w'.cell? ⟨w.heap.size + 1, t - 2, none⟩ = some (.int .u32 s2)) (first | go_keep | exact keep_four (by assumption) (by omega) (by omega) (by omega) (by omega)) (first
      | (go_at_call_of 172 (Value.int IntKind.i64 7); refine (zeT _ 7 18 3 _ (by omega) (by omega) (by omega)).mono ?_; rintro e w' ⟨rfl, nd, rfl⟩)
      | (go_at_call_of 172 (Value.int IntKind.i64 17); refine (zeT _ 17 19 10 _ (by omega) (by omega) (by omega)).mono ?_; rintro e w' ⟨rfl, nd, rfl⟩))
     simp only [IntKind.wrap_u32']
     go_wp2_with fail
     go_roundw
     case rel =>
      (repeat apply Exists.intro)
      exact ⟨⟨t + 1, by go_num, by omega, by omega, zfl ⟨HR.out.1.drewN _, HR.out.2⟩ (by rw [HV.out, add_four]; rfl)⟩, rfl⟩
     case measure => simp [intOf]; omega
    ·have he : t = 64 := by omega
     subst he
     go_upto_region 11 with fail
     refine wp_region_lit ?_
     refine wpList_load_row rfl 175 (.tmp 3) rfl (w.heap.size + 1) rfl _ _ (0, 0) _ (zb8 HR.out.2.2) U175 rfl (by rw [zam]; exact zgl) ?_
     refine wpList_store_row rfl 175 _ _ rfl w.heap.size (arr 64 fun i => .int .u32 (sched (fun i => xs.getD i 0) 64 i)) rfl rfl _ _ (zb8 HR.out.2.1) (by rw [zam]; exact zgl) (by rw [zam, zam]) (zfJ _) ?_
     refine wpList_nil ?_
     go_wp2_with fail
     refine bodyPost_ret (v := .agg (arr 64 fun i => .int .u32 (sched (fun i => xs.getD i 0) 64 i))) (zfC (b := w.heap.size) rfl rfl (zda (zdz HR.out.2.1 _) U175 zgl)) rfl ⟨rfl, HR.out.1.setRow (Nat.le_refl _) _⟩
theorem zeJ {P : Program} {ops : Array Oper} {rest : List Oper} {o : Oper} {a : Act} {w : World} {Q : Exit -> Act -> World -> Prop} (hg : o.guard = none) (t : TypeId) (parts : Array (Nat × Operand)) (ho : o.op = .build t parts)
  (cells : Array Value) (hf : P.built t (parts.map fun (i, x) => (i, a.eval x)).toList = some cells) (h : wpList P ops Q rest (a.put o.dst (.agg cells)) w) : wpList P ops Q (o :: rest) a w :=
 wpList_build hg t parts ho (by rw [hf]; rfl) (by rw [hf]; exact h)
theorem dround_any (w : World) : Calls prog 163 #[] w fun e w' => e = .returned (.agg (arr 64 fun i => .int .u32 (kS i))) /\ Old w w' := by
 go_enter func163, ntmps163
 go_upto_region 1 with fail
 refine wp_region_lit ?_
 refine zeJ rfl 175 _ rfl (arr 64 fun i => .int .u32 (kS i)) (by kernel_rfl) ?_
 have hz := zbA w 175 64 (fun _ => .int .u32 0)
 change wpList _ _ _ _ _ (w.alloc (.cells (arr 64 fun _ => .int .u32 0) 175))
 refine wpList_store_row rfl 175 _ _ rfl w.heap.size (arr 64 fun i => .int .u32 (kS i)) rfl rfl _ _ (zb8 hz) (by rw [zam]; exact zgl) (by rw [zam, zam]) (zfJ _) ?_
 refine wpList_nil ?_
 go_wp2_with fail
 refine bodyPost_ret (v := .agg (arr 64 fun i => .int .u32 (kS i))) (zfC (b := w.heap.size) rfl rfl (zda (zdz hz _) U175 zgl)) rfl ⟨rfl, ((Old.refl w).alloc _).setRow (Nat.le_refl _) _⟩
theorem one_eq' (a b c d e : Int) : ((a + b + c + d) % 4294967296 + e) % 4294967296 = add32 (add32 (add32 (add32 a b) c) d) e := by
 unfold add32
 omega
structure PieceAt (w W : World) (bk bw : Nat) (tk th : TypeId) (h S : NI) : Prop where
 old : Old w W
 ks : W.rowIs bk tk 64 (fun i => .int .u32 (kS i))
 hs : W.rowIs w.heap.size th 8 (fun i => .int .u32 (h i))
 out : W.rowIs (w.heap.size + 1) th 8 (fun _ => .int .u32 0)
 ws : W.rowIs bw tk 64 (fun i => .int .u32 (S i))
theorem piece_at {w w1 w2 : World} {tk th : TypeId} {h S : NI} (ho : Old ((w.alloc (.cells (arr 8 fun i => .int .u32 (h i)) th)).alloc (.cells (arr 8 fun _ => .int .u32 0) th)) w1) (ho2 : Old w1 w2) :
  PieceAt w ((w2.alloc (.cells (arr 64 fun i => .int .u32 (kS i)) tk)).alloc (.cells (arr 64 fun i => .int .u32 (S i)) tk)) w2.heap.size (w2.heap.size + 1) tk th h S := by
 have hh := (zbA w th 8 (fun i => .int .u32 (h i))).alloc (.cells (arr 8 fun _ => .int .u32 0) th)
 have hz := zbA (w.alloc (.cells (arr 8 fun i => .int .u32 (h i)) th)) th 8 (fun _ => .int .u32 0)
 rw [show (w.alloc (.cells (arr 8 fun i => .int .u32 (h i)) th)).heap.size = w.heap.size + 1 by simp] at hz
 have hw := zbA (w2.alloc (.cells (arr 64 fun i => .int .u32 (kS i)) tk)) tk 64 (fun i => .int .u32 (S i))
 rw [show (w2.alloc (.cells (arr 64 fun i => .int .u32 (kS i)) tk)).heap.size = w2.heap.size + 1 by simp] at hw
 refine ⟨?_, ?_, ?_, ?_, hw⟩
 ·exact ((((((Old.refl w).alloc _).alloc _).trans ho).trans ho2).alloc _).alloc _
 ·exact (zbA w2 tk 64 _).alloc _
 ·exact ((ho2.row (ho.row hh)).alloc _).alloc _
 ·exact ((ho2.row (ho.row hz)).alloc _).alloc _
theorem setRow_under (w : World) (c cs : Array Value) (t : TypeId) (o : Obj) : ((w.alloc (.cells c t)).alloc o).setRow w.heap.size cs = (w.alloc (.cells cs t)).alloc o := by
 simp only [World.setRow, World.alloc]
 congr 1
 apply Array.ext_getElem?
 intro i
 rw [Array.getElem?_modify]
 simp only [Array.getElem?_push, Array.size_push]
 by_cases h1 : w.heap.size = i
 ·subst h1
  simp
 ·rw [if_neg h1]
  simp [show ¬ i = w.heap.size from fun e => h1 e.symm]
theorem store_under {P : Program} (w : World) (t : TypeId) (c c' : Array Value) (o : Obj) (hi : (P.info? t).map (·.size) = some c'.size) (ho : c.size = c'.size) (h1 : c'.all (·.oneCell') = true) :
  (storeCells ⟨w.heap.size, 0, none⟩ c'.toList 0).run P ((w.alloc (.cells c t)).alloc o) = .ok () ((w.alloc (.cells c' t)).alloc o) := by
 have hg : ((w.alloc (.cells c t)).alloc o).heap[w.heap.size]? = some (.cells c t (0, 0)) := by
  simp only [World.alloc]
  rw [Array.getElem?_push]
  simp
 have := run_storeVar_row (P := P) ((w.alloc (.cells c t)).alloc o) w.heap.size t t c c' hg hi ho h1
 rw [setRow_under] at this
 cases hq : P.info? t with
 | none => simp [hq] at hi
 | some i =>
  have hs : c'.size = i.size := by simp [hq] at hi; omega
  simpa [storeVar, sizeOf, typeInfo, hq, Value.cells, hs] using this
theorem store_top {P : Program} (w : World) (t : TypeId) (c c' : Array Value) (o : Obj) (hi : (P.info? t).map (·.size) = some c'.size) (ho : c.size = c'.size) (h1 : c'.all (·.oneCell') = true) :
  (storeCells ⟨w.heap.size + 1, 0, none⟩ c'.toList 0).run P ((w.alloc o).alloc (.cells c t)) = .ok () ((w.alloc o).alloc (.cells c' t)) := by
 have := run_storeCells_new (P := P) (w.alloc o) t c c' hi ho h1
 rwa [show (w.alloc o).heap.size = w.heap.size + 1 by simp] at this
theorem draws_on {W wr : World} {n : Nat} (h : ∃ n, wr = W.drewN n) : ∃ m, wr.drewN n = W.drewN m := by
 obtain ⟨k, rfl⟩ := h
 exact ⟨k + n, World.drewN_drewN W k n⟩
theorem dpiece_any (h : NI) (xs : List Int) (w : World) (hx : Bts xs) (hl : xs.length = 64) :
  Calls prog 161 #[.agg (arr 8 fun i => .int .u32 (h i)), .string (strOfNums xs)] w fun e w' => e = .returned (.agg (arr 8 fun i => .int .u32 (add32 (h i) (zai (sched (fun i => xs.getD i 0) 64) 64 h i)))) /\ Old w w' := by
 have hsp : ∀ wx, Calls prog 164 #[.string (strOfNums xs)] wx fun e w' => e = .returned (.agg (arr 64 fun i => .int .u32 (sched (fun i => xs.getD i 0) 64 i))) /\ Old wx w' := fun wx => dspread_any xs wx hx hl
 generalize sched (fun i => xs.getD i 0) 64 = S at *
 have HS : Hid (∀ wx, Calls prog 164 #[.string (strOfNums xs)] wx fun e w' => e = .returned (.agg (arr 64 fun i => .int .u32 (S i))) /\ Old wx w') := hsp
 clear hsp hx hl
 have hzs : ∀ n f, (arr n f).size = n := zam
 have hst : ∀ (wx : World) (o : Obj) (c : Array Value), c.size = 64 -> (storeCells ⟨wx.heap.size + 1, 0, none⟩ (arr 64 fun i => .int .u32 (S i)).toList 0).run prog ((wx.alloc o).alloc (.cells c 175)) = .ok () ((wx.alloc o).alloc (.cells (arr 64 fun i => .int .u32 (S i)) 175)) := fun wx o c hc => store_top wx _ c _ o (by rw [zam]; exact zgl) (by rw [zam]; exact hc) (zfJ _)
 have hsk : ∀ (wx : World) (o : Obj) (c : Array Value), c.size = 64 -> (storeCells ⟨wx.heap.size, 0, none⟩ (arr 64 fun i => .int .u32 (kS i)).toList 0).run prog ((wx.alloc (.cells c 175)).alloc o) = .ok () ((wx.alloc (.cells (arr 64 fun i => .int .u32 (kS i)) 175)).alloc o) := fun wx o c hc => store_under wx _ c _ o (by rw [zam]; exact zgl) (by rw [zam]; exact hc) (zfJ _)
 go_enter func161, ntmps161
 go_upto_region 2 with (first
  | (go_at_call 163; refine (dround_any _).mono ?_; rintro e w1 ⟨rfl, ho1⟩)
  | (go_at_call 164; refine (HS.out _).mono ?_; rintro e w' ⟨rfl, ho⟩))
 have HP : Hid (PieceAt w ((w'.alloc (.cells (arr 64 fun i => .int .u32 (kS i)) 175)).alloc (.cells (arr 64 fun i => .int .u32 (S i)) 175)) w'.heap.size (w'.heap.size + 1) 175 164 h S) := piece_at ho1 ho
 clear ho ho1 hst hsk
 obtain ⟨W, hW⟩ : ∃ x, x = (w'.alloc (.cells (arr 64 fun i => .int .u32 (kS i)) 175)).alloc (.cells (arr 64 fun i => .int .u32 (S i)) 175) := ⟨_, rfl⟩
 rw [<- hW] at HP
 rw [<- hW]
 clear hW
 obtain ⟨bw, hbw⟩ : ∃ b, b = w'.heap.size + 1 := ⟨_, rfl⟩
 rw [<- hbw] at HP
 rw [<- hbw]
 clear hbw
 obtain ⟨bk, hbk⟩ : ∃ b, b = w'.heap.size := ⟨_, rfl⟩
 rw [<- hbk] at HP
 rw [<- hbk]
 clear hbk
 have x0 := HP.out.hs.cell (i := 0) (by omega)
 have x1 := HP.out.hs.cell (i := 1) (by omega)
 have x2 := HP.out.hs.cell (i := 2) (by omega)
 have x3 := HP.out.hs.cell (i := 3) (by omega)
 have x4 := HP.out.hs.cell (i := 4) (by omega)
 have x5 := HP.out.hs.cell (i := 5) (by omega)
 have x6 := HP.out.hs.cell (i := 6) (by omega)
 have x7 := HP.out.hs.cell (i := 7) (by omega)
 go_quiet (fail)
 go_wp2_with fail
 clear x0 x1 x2 x3 x4 x5 x6 x7
 go_loopw [7, 8, 9, 10, 11, 12, 13, 14, 37] (fun a b c d e f g l iv wx => ∃ t : Nat, iv = .int .i64 (t : Int) /\ t <= 64 /\ a = .int .u32 (zai S t h 0) /\ b = .int .u32 (zai S t h 1) /\ c = .int .u32 (zai S t h 2) /\ d = .int .u32 (zai S t h 3) /\ e = .int .u32 (zai S t h 4) /\ f = .int .u32 (zai S t h 5) /\ g = .int .u32 (zai S t h 6) /\ l = .int .u32 (zai S t h 7) /\ Hid (∃ n, wx = W.drewN n)) (fun _ _ _ _ _ _ _ _ iv _ => 64 - (intOf iv).toNat)
 case atStart => exact ⟨0, rfl, Nat.zero_le _, rfl, rfl, rfl, rfl, rfl, rfl, rfl, rfl, _, rfl⟩
 case round =>
  obtain ⟨t, rfl, ht, rfl, rfl, rfl, rfl, rfl, rfl, rfl, rfl, HW⟩ := hrel
  obtain ⟨n0, hn0⟩ := HW.out
  have HN : Hid (PieceAt w wr bk bw 175 164 h S) := by rw [hn0]; exact ⟨HP.out.old.drewN n0, HP.out.ks, HP.out.hs, HP.out.out, HP.out.ws⟩
  clear hn0
  by_cases hlt : t < 64
  ·have ck := HN.out.ks.cell hlt
   have cw := HN.out.ws.cell hlt
   have HV : Hid (∀ i, zai S (t + 1) h i = zcW (zai S t h) (kS t) (S t) i) := fun _ => rfl
   generalize kS t = kk at *
   generalize hr : zai S t h = r at *
   clear hr
   have tt : (t : Int) < 64 := by omega
   have t0 : (0 : Int) <= (t : Int) := by omega
   go_upto_region 6 with fail
   go_cut [16, 37] from 38 to 76 (fun ov iv wx => ov = .int .u32 (one32 r kk (S t)) /\ iv = .int .i64 (t : Int) /\ ∃ n, wx = wr.drewN n)
   case first =>
    go_quiet (first
     | (go_at_call 165; exact Calls.quiet_of_same (zgg _ 6 11 25 _ (by omega) (by omega) (by omega)))
     | (go_at_call 166; exact Calls.quiet_of_same (dchoice_any _ _ _ _)))
    go_wp2_with fail
    go_meet
    case rel => exact ⟨congrArg (Value.int .u32) (one_eq' (r 7) (big1 (r 4)) (pick (r 4) (r 5) (r 6)) kk (S t)), rfl, _, rfl⟩
   obtain ⟨rfl, rfl, nd, rfl⟩ := hcut
   have HO : Hid (∃ o, o = one32 r kk (S t)) := ⟨_, rfl⟩
   obtain ⟨o, ho⟩ := HO.out
   rw [<- ho]
   have HO : Hid (o = one32 r kk (S t)) := ho
   clear ho
   go_wp2_with (first
    | (go_at_call 165; refine (zgg _ 2 13 22 _ (by omega) (by omega) (by omega)).mono ?_; rintro e w' ⟨rfl, rfl⟩)
    | (go_at_call 167; refine (dmost_any _ _ _ _).mono ?_; rintro e w' ⟨rfl, rfl⟩))
   go_roundw
   case rel => exact ⟨t + 1, by go_num, by omega, by rw [HV.out 0, HO.out]; rfl, by rw [HV.out 1]; rfl, by rw [HV.out 2]; rfl, by rw [HV.out 3]; rfl, by rw [HV.out 4, HO.out]; rfl, by rw [HV.out 5]; rfl, by rw [HV.out 6]; rfl, by rw [HV.out 7]; rfl, draws_on HW.out⟩
   case measure => simp [intOf]; omega
  ·have he : t = 64 := by omega
   subst he
   have y0 := HN.out.hs.cell (i := 0) (by omega)
   have y1 := HN.out.hs.cell (i := 1) (by omega)
   have y2 := HN.out.hs.cell (i := 2) (by omega)
   have y3 := HN.out.hs.cell (i := 3) (by omega)
   have y4 := HN.out.hs.cell (i := 4) (by omega)
   have y5 := HN.out.hs.cell (i := 5) (by omega)
   have y6 := HN.out.hs.cell (i := 6) (by omega)
   have y7 := HN.out.hs.cell (i := 7) (by omega)
   have c0 := HN.out.out.cell (i := 0) (by omega)
   have c1 := HN.out.out.cell (i := 1) (by omega)
   have c2 := HN.out.out.cell (i := 2) (by omega)
   have c3 := HN.out.out.cell (i := 3) (by omega)
   have c4 := HN.out.out.cell (i := 4) (by omega)
   have c5 := HN.out.out.cell (i := 5) (by omega)
   have c6 := HN.out.out.cell (i := 6) (by omega)
   have c7 := HN.out.out.cell (i := 7) (by omega)
   have f0 := HN.out.out.frozen 0
   have f1 := HN.out.out.frozen 1
   have f2 := HN.out.out.frozen 2
   have f3 := HN.out.out.frozen 3
   have f4 := HN.out.out.frozen 4
   have f5 := HN.out.out.frozen 5
   have f6 := HN.out.out.frozen 6
   have f7 := HN.out.out.frozen 7
   go_wp2_with fail
   refine bodyPost_ret (v := .agg (arr 8 fun i => .int .u32 (add32 (h i) (zai S 64 h i)))) (zfC (b := w.heap.size + 1) rfl rfl (zda (zeR HN.out.out (fun i => .int .u32 (add32 (h i) (zai S 64 h i)))) U164 info8)) rfl ⟨rfl, zfk HN.out.old (Nat.le_succ _) _ _ _ _ _ _ _ _⟩
theorem str_take' (xs : List Int) (n : Nat) : (strOfNums xs).extract 0 n = strOfNums (xs.take n) := by
 rw [zf2, Nat.sub_zero, Ld0]
theorem str_drop (xs : List Int) (a n : Nat) (h : n = xs.length) : (strOfNums xs).extract a n = strOfNums (xs.drop a) := by
 rw [zf2, List.take_of_length_le (by rw [List.length_drop]; omega)]
def strLen : Value -> Nat
 | .string s => s.size
 | _ => 0
def zaf (h B : NI) : Nat -> Nat -> Int
 | 0 => h
 | c + 1 => fun i => add32 (zaf h B c i) (zai (sched (fun j => B (64 * c + j)) 64) 64 (zaf h B c) i)
structure PiecesAt (w W : World) (th : TypeId) (h : NI) : Prop where
 old : Old w W
 hs : W.rowIs w.heap.size th 8 (fun i => .int .u32 (h i))
 out : W.rowIs (w.heap.size + 1) th 8 (fun _ => .int .u32 0)
theorem pieces_at {w : World} {th : TypeId} {h : NI} :
  PiecesAt w ((w.alloc (.cells (arr 8 fun i => .int .u32 (h i)) th)).alloc (.cells (arr 8 fun _ => .int .u32 0) th)) th h := by
 have hz := zbA (w.alloc (.cells (arr 8 fun i => .int .u32 (h i)) th)) th 8 (fun _ => .int .u32 0)
 rw [show (w.alloc (.cells (arr 8 fun i => .int .u32 (h i)) th)).heap.size = w.heap.size + 1 by simp] at hz
 exact ⟨((Old.refl w).alloc _).alloc _, (zbA w th 8 _).alloc _, hz⟩
theorem PiecesAt.set {w W : World} {th : TypeId} {h : NI} (p : PiecesAt w W th h) (g : NI) : PiecesAt w (W.setRow w.heap.size (arr 8 fun i => .int .u32 (g i))) th g :=
 ⟨p.old.setRow (Nat.le_refl _) _, zdz p.hs _, p.out.of_block (by simp only [World.setRow]; rw [Array.getElem?_modify, if_neg (by omega)])⟩
theorem PiecesAt.after {w W W' : World} {th : TypeId} {h : NI} (p : PiecesAt w W th h) (ho : Old W W') : PiecesAt w W' th h := ⟨p.old.trans ho, ho.row p.hs, ho.row p.out⟩
theorem zgh (xs : List Int) (a j : Nat) : (xs.drop a).getD j 0 = xs.getD (a + j) 0 := by
 rw [List.getD, List.getElem?_drop, List.getD]
theorem zgi {xs : List Int} {n j : Nat} (h : j < n) : (xs.take n).getD j 0 = xs.getD j 0 := by
 rw [List.getD, List.getElem?_take, if_pos h, List.getD]
theorem zfM {B C : NI} (h : ∀ j, j < 64 -> B j = C j) : ∀ t, t <= 64 -> sched B t = sched C t
 | 0, _ => rfl
 | t + 1, ht => by
  have ih := zfM h t (by omega)
  funext j
  show (if j = t then word B (sched B t) t else sched B t j) = (if j = t then word C (sched C t) t else sched C t j)
  rw [ih]
  have hw : word B (sched C t) t = word C (sched C t) t := by
   unfold word
   split
   ·rw [h _ (by omega), h _ (by omega), h _ (by omega), h _ (by omega)]
   ·rfl
  rw [hw]
theorem zea (h : NI) (xs : List Int) (m : Nat) (w : World) (hx : Bts xs) (hl : xs.length = 64 * m) (hm : m <= 100000) :
  Calls prog 155 #[.agg (arr 8 fun i => .int .u32 (h i)), .string (strOfNums xs)] w fun e w' => e = .returned (.agg (arr 8 fun i => .int .u32 (zaf h (fun i => xs.getD i 0) m i))) /\ Old w w' := by
 have hsz : ∀ xs : List Int, (strOfNums xs).size = xs.length := strOfNums_size
 have hzs : ∀ n f, (arr n f).size = n := zam
 have HX : Hid (Bts xs) := hx
 clear hx
 go_enter func155, ntmps155
 go_wp2_with fail
 go_loopw [1] (fun sv wx => ∃ c : Nat, c <= m /\ sv = .string (strOfNums (xs.drop (64 * c))) /\ Hid (PiecesAt w wx 164 (zaf h (fun i => xs.getD i 0) c))) (fun sv _ => strLen sv)
 case atStart => exact ⟨0, Nat.zero_le _, rfl, pieces_at⟩
 case round =>
  obtain ⟨c, hc, rfl, HR⟩ := hrel
  have ld : (xs.drop (64 * c)).length = 64 * (m - c) := by rw [List.length_drop, hl]; omega
  by_cases hlt : c < m
  ·have y0 := HR.out.hs.cell (i := 0) (by omega)
   have y1 := HR.out.hs.cell (i := 1) (by omega)
   have y2 := HR.out.hs.cell (i := 2) (by omega)
   have y3 := HR.out.hs.cell (i := 3) (by omega)
   have y4 := HR.out.hs.cell (i := 4) (by omega)
   have y5 := HR.out.hs.cell (i := 5) (by omega)
   have y6 := HR.out.hs.cell (i := 6) (by omega)
   have y7 := HR.out.hs.cell (i := 7) (by omega)
   have HE : Hid (∀ i, zaf h (fun i => xs.getD i 0) (c + 1) i = add32 (zaf h (fun i => xs.getD i 0) c i) (zai (sched (fun i => ((xs.drop (64 * c)).take 64).getD i 0) 64) 64 (zaf h (fun i => xs.getD i 0) c) i)) := fun i => by
    rw [zfM (C := fun j => xs.getD (64 * c + j) 0) (fun j hj => by rw [zgi hj, zgh]) 64 (Nat.le_refl _)]
    rfl
   obtain ⟨g1, hg1⟩ : ∃ g, g = zaf h (fun i => xs.getD i 0) (c + 1) := ⟨_, rfl⟩
   rw [<- hg1] at HE
   have HG : Hid (g1 = zaf h (fun i => xs.getD i 0) (c + 1)) := hg1
   clear hg1
   generalize zaf h (fun i => xs.getD i 0) c = g at *
   have HY : Hid (Bts (xs.drop (64 * c))) := fun x hx => HX.out x (List.mem_of_mem_drop hx)
   have HD : Hid (xs.drop (64 * (c + 1)) = (xs.drop (64 * c)).drop 64) := by unfold Hid; rw [List.drop_drop]; rfl
   generalize xs.drop (64 * c) = ys at *
   have hcut : (strOfNums ys).extract 0 64 = strOfNums (ys.take 64) := str_take' ys 64
   have hrest : (strOfNums ys).extract 64 (64 * (m - c)) = strOfNums (ys.drop 64) := str_drop ys 64 _ ld.symm
   have l64 : 64 <= ys.length := by omega
   have l64' : (64 : Int) <= (ys.length : Int) := by omega
   have l1 : ¬ ((ys.length : Int) < 64) := by omega
   have l3 : ¬ (ys.length < 64) := by omega
   have HP : Hid (∀ wx, Calls prog 161 #[.agg (arr 8 fun i => .int .u32 (g i)), .string (strOfNums (ys.take 64))] wx fun e w' => e = .returned (.agg (arr 8 fun i => .int .u32 (g1 i))) /\ Old wx w') := fun wx => by
    have := dpiece_any g (ys.take 64) wx (fun x hx => HY.out x (List.mem_of_mem_take hx)) (by rw [List.length_take]; omega)
    rwa [show (arr 8 fun i => Value.int .u32 (g1 i)) = arr 8 fun i => .int .u32 (add32 (g i) (zai (sched (fun i => (ys.take 64).getD i 0) 64) 64 g i)) from arr_congr fun i _ => by rw [HE.out i]]
   go_upto_region 3 with fail
   go_region_with (go_at_call 161; refine (HP.out _).mono ?_; rintro e w' ⟨rfl, ho⟩; have hst := zbQ (P := prog) (k := .u32) (g := g1) (HR.out.after ((Old.refl _).drew.trans ho)).hs)
   all_goals
    go_wp2_with fail
    go_roundw
    case rel => exact ⟨c + 1, by omega, by rw [HD.out], by rw [<- HG.out]; exact (HR.out.after ((Old.refl _).drew.trans ho)).set g1⟩
    case measure => simp [strLen, hsz]; omega
  ·have he : c = m := by omega
   subst he
   have l0 : (xs.drop (64 * c)).length = 0 := by omega
   have HK : Hid (PiecesAt w wr 164 (zaf h (fun i => xs.getD i 0) c)) := HR
   generalize xs.drop (64 * c) = ys at *
   obtain ⟨g, hg⟩ : ∃ g, g = zaf h (fun i => xs.getD i 0) c := ⟨_, rfl⟩
   rw [<- hg] at HK
   have HG : Hid (g = zaf h (fun i => xs.getD i 0) c) := hg
   clear hg
   go_upto_region 4 with fail
   refine wp_region_lit ?_
   refine wpList_load_row rfl 164 (.tmp 2) rfl w.heap.size rfl _ _ (0, 0) _ (zb8 HK.out.hs) U164 rfl (by rw [zam]; exact info8) ?_
   refine wpList_store_row rfl 164 _ _ rfl (w.heap.size + 1) (arr 8 fun i => .int .u32 (g i)) rfl rfl _ _ (zb8 HK.out.out) (by rw [zam]; exact info8) (by rw [zam, zam]) (zfJ _) ?_
   refine wpList_nil ?_
   go_wp2_with fail
   refine bodyPost_ret (v := .agg (arr 8 fun i => .int .u32 (g i))) (zfC (b := w.heap.size + 1) rfl rfl (zda (zdz HK.out.out _) U164 info8)) rfl ⟨by rw [HG.out], HK.out.old.setRow (Nat.le_succ _) _⟩
theorem dending_any (n : Nat) (w : World) (hn : n <= 1000000) :
  Calls prog 157 #[.int .u64 (n : Int)] w fun e w' => e = .returned (.string (strOfNums (endL n))) /\ Old w w' := by
 have hadd : ∀ xs ys : List Int, strOfNums xs ++ strOfNums ys = strOfNums (xs ++ ys) := zc0
 have hsz : ∀ xs : List Int, (strOfNums xs).size = xs.length := strOfNums_size
 have h128 : (ByteArray.mk #[128]) = strOfNums [128] := rfl
 have z8 := zal (8 * (n : Int)) 8
 have hz : (119 - (n : Int) % 64) % 64 = ((zeros n : Nat) : Int) := by unfold zeros; omega
 have hz2 := zdi n
 have HE : Hid (endL n = [128] ++ List.replicate (zeros n) 0 ++ zap (8 * (n : Int)) 8) := by unfold Hid endL; rw [Int.mul_comm]
 go_enter func157, ntmps157
 go_upto_region 2 with fail
 go_wp2_with (first
  | (go_at_call 162; refine (drepeat_any (zeros n) _ (by omega)).mono ?_; rintro e w1 ⟨rfl, ho1⟩)
  | (go_at_call 154; refine (zf4 _ 8 _ (by omega) (by omega)).mono ?_; rintro e w2 ⟨rfl, ho2⟩))
 go_ret
 exact ⟨by rw [HE.out]; rfl, ho1.trans ho2⟩
theorem zfQ {h B C : NI} : ∀ m, (∀ j, j < 64 * m -> B j = C j) -> zaf h B m = zaf h C m
 | 0, _ => rfl
 | m + 1, hb => by
  have ih := zfQ (h := h) m fun j hj => hb j (by omega)
  funext i
  show add32 (zaf h B m i) (zai (sched (fun j => B (64 * m + j)) 64) 64 (zaf h B m) i) = add32 (zaf h C m i) (zai (sched (fun j => C (64 * m + j)) 64) 64 (zaf h C m) i)
  rw [ih, zfM (C := fun j => C (64 * m + j)) (fun j hj => hb _ (by omega)) 64 (Nat.le_refl _)]
theorem zf1 (h B : NI) (m : Nat) : ∀ k, zaf (zaf h B m) (fun i => B (64 * m + i)) k = zaf h B (m + k)
 | 0 => rfl
 | k + 1 => by
  have ih := zf1 h B m k
  funext i
  show add32 (zaf (zaf h B m) (fun i => B (64 * m + i)) k i) (zai (sched (fun j => B (64 * m + (64 * k + j))) 64) 64 (zaf (zaf h B m) (fun i => B (64 * m + i)) k) i) = add32 (zaf h B (m + k) i) (zai (sched (fun j => B (64 * (m + k) + j)) 64) 64 (zaf h B (m + k)) i)
  rw [ih]
  have e : (fun j => B (64 * m + (64 * k + j))) = fun j => B (64 * (m + k) + j) := funext fun j => congrArg B (by omega)
  rw [e]
theorem zfg (B : NI) : ∀ c, state B c = zaf hS B c
 | 0 => rfl
 | c + 1 => by
  funext i
  show add32 (state B c i) (zai (sched (fun j => B (64 * c + j)) 64) 64 (state B c) i) = add32 (zaf hS B c i) (zai (sched (fun j => B (64 * c + j)) 64) 64 (zaf hS B c) i)
  rw [zfg B c]
theorem padL_end (xs : List Int) : padL xs = xs ++ endL xs.length := by
 unfold padL endL
 simp only [List.append_assoc]
theorem sum_parts (xs : List Int) (m k : Nat) (hm : 64 * m <= xs.length) (hk : m + k = za3 xs.length) :
  zaf (zaf hS (fun i => (xs.take (64 * m)).getD i 0) m) (fun i => (xs.drop (64 * m) ++ endL xs.length).getD i 0) k = state (fun i => (padL xs).getD i 0) (za3 xs.length) := by
 rw [zfg, <- hk, <- zf1]
 have e1 : zaf hS (fun i => (xs.take (64 * m)).getD i 0) m = zaf hS (fun i => (padL xs).getD i 0) m := zfQ m fun j hj => by
  show (xs.take (64 * m)).getD j 0 = (padL xs).getD j 0
  rw [zgi hj, padL_end, List.getD, List.getD, List.getElem?_append_left (by omega)]
 have e2 : (fun i => (xs.drop (64 * m) ++ endL xs.length).getD i 0) = fun i => (padL xs).getD (64 * m + i) 0 := by
  funext i
  rw [padL_end, <- List.drop_append_of_le_length hm, zgh]
 rw [e1, e2]
theorem index_arr (g : NI) (i : Nat) (wx : World) (h : i < 8) : (Instr.index 164 (.agg (arr 8 fun i => .int .u32 (g i))) (.int .i64 (i : Int))).run prog wx = .ok (.int .u32 (g i)) wx := by
 have ha : (arr 8 fun i => Value.int .u32 (g i))[i]? = some (.int .u32 (g i)) := zgc h
 have hu := run_underlying (P := prog) U164 wx
 have hb : (0 : Int) <= (i : Int) /\ (i : Int) < ((8 : Nat) : Int) := by omega
 have h1 := Tryz.sizeOf163 wx
 simp [Instr.index, asIntOf, hu, h, h1, part, ha]
theorem endL_bd (n : Nat) : Bts (endL n) := by
 intro x hx
 simp only [endL, List.mem_append, List.mem_singleton, List.mem_replicate] at hx
 rcases hx with (rfl | ⟨_, rfl⟩) | hx
 ·omega
 ·omega
 ·exact zbt _ _ x hx
theorem row_after {wx w' : World} {t : TypeId} (h : Old (wx.alloc (.cells (arr 8 fun _ => .int .u32 0) t)) w') : w'.rowIs wx.heap.size t 8 (fun _ => .int .u32 0) := h.row (zbA wx t 8 _)
theorem zeF {P : Program} {wx w' : World} {t : TypeId} {g : NI} (h : Old (wx.alloc (.cells (arr 8 fun _ => .int .u32 0) t)) w') : (storeCells ⟨wx.heap.size, 0, none⟩ (arr 8 fun i => .int .u32 (g i)).toList 0).run P w' = .ok () (w'.setRow wx.heap.size (arr 8 fun i => .int .u32 (g i))) := zbQ (row_after h)
theorem sum_last {w w2 : World} {t : TypeId} {g : NI} (h : Old w w2) : ∃ b, Value.pointer (some ⟨w2.heap.size, 0, none⟩) = .pointer (some ⟨b, 0, none⟩) /\ Hid (Old w (w2.alloc (.cells (arr 8 fun i => .int .u32 (g i)) t)) /\ w.heap.size <= b /\ (w2.alloc (.cells (arr 8 fun i => .int .u32 (g i)) t)).rowIs b t 8 (fun i => .int .u32 (g i))) :=
 ⟨_, rfl, h.alloc _, h.size, zbA _ _ _ _⟩
theorem sum_early {w wx w2 : World} {t : TypeId} {g : NI} (h1 : Old w wx) (h2 : Old (wx.alloc (.cells (arr 8 fun _ => .int .u32 0) t)) w2) : ∃ b, Value.pointer (some ⟨wx.heap.size, 0, none⟩) = .pointer (some ⟨b, 0, none⟩) /\ Hid (Old w (w2.setRow wx.heap.size (arr 8 fun i => .int .u32 (g i))) /\ w.heap.size <= b /\ (w2.setRow wx.heap.size (arr 8 fun i => .int .u32 (g i))).rowIs b t 8 (fun i => .int .u32 (g i))) :=
 ⟨_, rfl, ((h1.alloc _).trans h2).setRow h1.size _, h1.size, zdz (row_after h2) _⟩
theorem dsum_any (xs : List Int) (w : World) (hx : Bts xs) (hl : xs.length <= 1000000) :
  Calls prog 144 #[.string (strOfNums xs)] w fun e w' => e = .returned (.string (strOfNums (sumL xs))) /\ Old w w' := by
 obtain ⟨m, hm⟩ : ∃ m, m = xs.length / 64 := ⟨_, rfl⟩
 have hzs : ∀ n f, (arr n f).size = n := zam
 have hadd : ∀ xs ys : List Int, strOfNums xs ++ strOfNums ys = strOfNums (xs ++ ys) := zc0
 have hsz : ∀ xs : List Int, (strOfNums xs).size = xs.length := strOfNums_size
 have hW : (xs.length : Int) - (xs.length : Int) % 64 = 64 * (m : Int) := by omega
 have hW0 : (0 : Int) <= 64 * (m : Int) := by omega
 have hW1 : 64 * (m : Int) <= (xs.length : Int) := by omega
 have hT : (64 * (m : Int)).toNat = 64 * m := by omega
 have HM : Hid (m = xs.length / 64) := hm
 clear hm
 have HX : Hid (Bts xs) := hx
 clear hx
 obtain ⟨g1, hg1⟩ : ∃ g, g = zaf hS (fun i => (xs.take (64 * m)).getD i 0) m := ⟨_, rfl⟩
 have H1 : Hid (∀ wx, Calls prog 155 #[.agg (arr 8 fun i => .int .u32 (hS i)), .string (strOfNums (xs.take (64 * m)))] wx fun e w' => e = .returned (.agg (arr 8 fun i => .int .u32 (g1 i))) /\ Old wx w') := fun wx => by
  rw [hg1]
  exact zea hS (xs.take (64 * m)) m wx (fun x hx => HX.out x (List.mem_of_mem_take hx)) (by rw [List.length_take]; omega) (by omega)
 have HG : Hid (g1 = zaf hS (fun i => (xs.take (64 * m)).getD i 0) m) := hg1
 clear hg1
 have hcut : (strOfNums xs).extract 0 (64 * m) = strOfNums (xs.take (64 * m)) := str_take' xs (64 * m)
 have hst : ∀ (wx : World) (c : Array Value), c.size = 8 -> (storeCells ⟨wx.heap.size, 0, none⟩ (arr 8 fun i => .int .u32 (g1 i)).toList 0).run prog (wx.alloc (.cells c 164)) = .ok () (wx.alloc (.cells (arr 8 fun i => .int .u32 (g1 i)) 164)) := fun wx c hc => run_storeCells_new wx _ c _ (by rw [zam]; exact info8) (by rw [zam]; exact hc) (zfJ g1)
 go_enter func144, ntmps144
 go_upto_region 2 with fail
 go_cut [4] (fun pv wx => ∃ b, pv = .pointer (some ⟨b, 0, none⟩) /\ Hid (Old w wx /\ w.heap.size <= b /\ wx.rowIs b 164 8 (fun i => .int .u32 (g1 i))))
 case first =>
  go_region_with (first
   | (go_at_call 156; refine (dfirst_any _).mono ?_; rintro e w1 ⟨rfl, ho1⟩)
   | (go_at_call 155; refine (H1.out _).mono ?_; rintro e w2 ⟨rfl, ho2⟩; (try have hs1 := zeF (P := prog) (g := g1) ho2); (try have hs2 : (storeCells ⟨w.heap.size, 0, none⟩ (arr 8 fun i => .int .u32 (g1 i)).toList 0).run prog w2 = .ok () (w2.setRow w.heap.size (arr 8 fun i => .int .u32 (g1 i))) := zeF (wx := w.drew) (ho1.trans ho2))))
  all_goals
   go_wp2_with fail
   go_meet
   case rel => first
    | exact sum_last (((Old.refl _).drew.trans ho1).trans ho2)
    | exact sum_early ((Old.refl _).drew.trans ho1) ho2
    | exact sum_early (wx := w.drew) (Old.refl _).drew (ho1.trans ho2)
 obtain ⟨b, rfl, HB⟩ := hcut
 clear hst hcut
 obtain ⟨g2, hg2⟩ : ∃ g, g = state (fun i => (padL xs).getD i 0) (za3 xs.length) := ⟨_, rfl⟩
 have H2 : Hid (∀ wx, Calls prog 155 #[.agg (arr 8 fun i => .int .u32 (g1 i)), .string (strOfNums (xs.drop (64 * m) ++ endL xs.length))] wx fun e w' => e = .returned (.agg (arr 8 fun i => .int .u32 (g2 i))) /\ Old wx w') := fun wx => by
  have hp := zcs xs.length
  have hm := HM.out
  have lz := zdi xs.length
  rw [hg2, <- sum_parts xs m (za3 xs.length - m) (by omega) (by omega), <- HG.out]
  refine zea g1 (xs.drop (64 * m) ++ endL xs.length) (za3 xs.length - m) wx (zdv (fun x hx => HX.out x (List.mem_of_mem_drop hx)) ?_) ?_ (by omega)
  ·exact endL_bd _
  ·rw [List.length_append, List.length_drop, endL_len]
   omega
 have HS : Hid (sumL xs = outL g2 8 /\ ∀ i, 0 <= g2 i /\ g2 i <= 4294967295) := by
  rw [hg2]
  exact ⟨rfl, state_bd _ _⟩
 clear hg2
 have hrest : (strOfNums xs).extract (64 * m) xs.length = strOfNums (xs.drop (64 * m)) := str_drop xs (64 * m) _ rfl
 have ld : (xs.drop (64 * m)).length = xs.length - 64 * m := List.length_drop
 have le := endL_len xs.length
 have lz := zdi xs.length
 have y0 := HB.out.2.2.cell (i := 0) (by omega)
 have y1 := HB.out.2.2.cell (i := 1) (by omega)
 have y2 := HB.out.2.2.cell (i := 2) (by omega)
 have y3 := HB.out.2.2.cell (i := 3) (by omega)
 have y4 := HB.out.2.2.cell (i := 4) (by omega)
 have y5 := HB.out.2.2.cell (i := 5) (by omega)
 have y6 := HB.out.2.2.cell (i := 6) (by omega)
 have y7 := HB.out.2.2.cell (i := 7) (by omega)
 have hw : IntKind.u64.wrap (xs.length : Int) = (xs.length : Int) := by rw [IntKind.wrap_u64]; omega
 go_upto_region 3 with fail
 go_cut [4] (fun pv wx => pv = .pointer (some ⟨b, 0, none⟩) /\ Hid (Old w wx /\ wx.rowIs b 164 8 (fun i => .int .u32 (g2 i))))
 case first =>
  go_region_with (first
   | (go_at_call 157; refine (dending_any xs.length _ hl).mono ?_; rintro e w1 ⟨rfl, ho1⟩; have z0 := ho1.cellOf y0; have z1 := ho1.cellOf y1; have z2 := ho1.cellOf y2; have z3 := ho1.cellOf y3; have z4 := ho1.cellOf y4; have z5 := ho1.cellOf y5; have z6 := ho1.cellOf y6; have z7 := ho1.cellOf y7)
   | (go_at_call 155; refine (H2.out _).mono ?_; rintro e w2 ⟨rfl, ho2⟩; have hs1 := zbQ (P := prog) (k := .u32) (g := g2) ((ho1.trans ho2).row HB.out.2.2)))
  all_goals
   go_wp2_with fail
   go_meet
   case rel => exact ⟨rfl, (HB.out.1.drew.trans (ho1.trans ho2)).setRow HB.out.2.1 _, zdz ((ho1.trans ho2).row HB.out.2.2) _⟩
 obtain ⟨rfl, HC⟩ := hcut
 clear y0 y1 y2 y3 y4 y5 y6 y7 hrest ld le lz hw hW hW0 hW1 hT
 obtain ⟨W, hW⟩ : ∃ x, x = wc := ⟨_, rfl⟩
 subst hW
 have HN : Hid (b < W.heap.size) := HC.out.2.lt
 have HL : Hid (W.heap.size <= (W.alloc (.cells #[.pointer none, .slice none 0 0] 155)).heap.size /\ Old W (W.alloc (.cells #[.pointer none, .slice none 0 0] 155)) /\ Bld W.heap.size W.heap.size [] (W.alloc (.cells #[.pointer none, .slice none 0 0] 155)) /\ (W.alloc (.cells #[.pointer none, .slice none 0 0] 155)).rowIs b 164 8 (fun i => .int .u32 (g2 i))) := ⟨by simp, (Old.refl _).alloc _, Bld.new W, HC.out.2.alloc _⟩
 go_upto_region 5 with fail
 refine wp_region_lit ?_
 refine wpList_load_row rfl 164 (.tmp 4) rfl b rfl _ _ (0, 0) _ (zb8 HL.out.2.2.2) U164 rfl (by rw [zam]; exact info8) ?_
 go_wp2_with fail
 go_loopw [30] (fun iv wx => ∃ i : Nat, iv = .int .i64 (i : Int) /\ i <= 8 /\ Hid (Old W wx /\ Bld W.heap.size W.heap.size (outL g2 i) wx)) (fun iv _ => 8 - (intOf iv).toNat)
 case atStart => exact ⟨0, rfl, Nat.zero_le _, HL.out.2.1, HL.out.2.2.1⟩
 case round =>
  obtain ⟨i, rfl, hi, HR⟩ := hrel
  by_cases hlt : i < 8
  ·have ha := fun wx => index_arr g2 i wx hlt
   obtain ⟨e0, e1⟩ := HS.out.2 i
   have i8 : (i : Int) < 8 := by omega
   have i0 : (0 : Int) <= (i : Int) := by omega
   have z1 := zdV g2 i
   have z2 := zal (g2 i) 4
   go_wp2_with (first
    | (go_at_call 154; refine (zf4 _ 4 _ (by omega) (by omega)).mono ?_; rintro e w1 ⟨rfl, ho1⟩)
    | (go_at_call 142; refine (zd4 W.heap.size W.heap.size (outL g2 i) (zap (g2 i) 4) _ (HR.out.2.old ho1) (by omega) (Nat.le_trans HR.out.1.size ho1.size)).mono ?_; rintro e w2 ⟨rfl, hb2, hbel⟩))
   go_roundw
   case rel => exact ⟨i + 1, by go_num, by omega, (HR.out.1.trans ho1).thenBelow (Nat.le_refl _) hbel, hb2⟩
   case measure => simp [intOf]; omega
  ·have he : i = 8 := by omega
   subst he
   go_wp2_with (go_at_call 145; refine (zgd W.heap.size W.heap.size (outL g2 8) _ HR.out.2 HR.out.1.size).mono ?_; rintro e w1 ⟨rfl, hbel⟩)
   go_ret
   exact ⟨by rw [HS.out.1]; rfl, HC.out.1.trans (HR.out.1.thenBelow (Nat.le_refl _) hbel)⟩
end
end Go.Proofs.YtlnmjbbpenhdbaaGreat
