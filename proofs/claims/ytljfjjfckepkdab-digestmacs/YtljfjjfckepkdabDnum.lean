/-
  The program's numbers of bytes and bytes of numbers (layer 3).
-/
import Derived.Test.YtljfjjfckepkdabMac
import Derived.Test.YtljfjjfckepkdabDturn
namespace Go.Proofs.Ytljfjjfckepkdab
open Go.RowKit

/-- The number of the first i bytes, the highest first. -/
def valP (X : Nat → Int) : Nat → Int
  | 0 => 0
  | i + 1 => valP X i * 256 + X i
theorem valP_bd {X : Nat → Int} (h : ∀ i, 0 ≤ X i ∧ X i ≤ 255) : ∀ i, 0 ≤ valP X i ∧ valP X i < 256 ^ i
  | 0 => by show (0 : Int) ≤ 0 ∧ (0 : Int) < 256 ^ 0; omega
  | i + 1 => by
    have h1 := valP_bd h i
    have h2 := h i
    show (0 : Int) ≤ valP X i * 256 + X i ∧ valP X i * 256 + X i < 256 ^ (i + 1)
    rw [Int.pow_succ]
    generalize (256 : Int) ^ i = m at *
    omega
theorem pow_le8 {i : Nat} (h : i ≤ 7) : (256 : Int) ^ i ≤ 72057594037927936 := by
  match i, h with
  | 0, _ => decide
  | 1, _ => decide
  | 2, _ => decide
  | 3, _ => decide
  | 4, _ => decide
  | 5, _ => decide
  | 6, _ => decide
  | 7, _ => decide
theorem join_byte (n x : Int) (n0 : 0 ≤ n) (n1 : n < 72057594037927936) (x0 : 0 ≤ x) (x1 : x ≤ 255) : bits .or .u64 (n * 256 % 18446744073709551616) x = n * 256 + x := by
  rw [Int.emod_eq_of_lt (by omega) (by omega), u64_or _ _ (by omega) (by omega) (by omega) (by omega), nat_join 8 _ _ (by omega) (by omega)]
  omega

theorem dnum_any (xs : List Int) (w : World) (hx : Bts xs) (hl : xs.length ≤ 8) :
    Calls Try.prog 56 #[.string (strOfNums xs)] w fun e w' => e = .returned (.int .u64 (valP (fun i => xs.getD i 0) xs.length)) ∧ w' = w := by
  have hsz : ∀ xs : List Int, (strOfNums xs).size = xs.length := strOfNums_size
  have HX : Hid (Bts xs) := hx
  clear hx
  go_enter Try.func56, Try.ntmps56
  go_wp2_with fail
  go_loopw [3, 7] (fun nv iv wx => ∃ i : Nat, iv = .int .i64 (i : Int) ∧ i ≤ xs.length ∧ nv = .int .u64 (valP (fun i => xs.getD i 0) i) ∧ wx = w) (fun _ iv _ => xs.length - (intOf iv).toNat)
  case atStart => exact ⟨0, rfl, Nat.zero_le _, rfl, rfl⟩
  case round =>
    obtain ⟨i, rfl, hi, rfl, rfl⟩ := hrel
    by_cases hlt : i < xs.length
    · have hix := str_index HX.out (i := i) (by rw [strOfNums_size]; omega)
      obtain ⟨e0, e1⟩ := getD_bd HX.out i
      obtain ⟨g0, g1⟩ := valP_bd (getD_bd HX.out) i
      have g2 := pow_le8 (show i ≤ 7 by omega)
      have HF : Hid (valP (fun i => xs.getD i 0) (i + 1) = valP (fun i => xs.getD i 0) i * 256 + xs.getD i 0) := rfl
      generalize valP (fun i => xs.getD i 0) i = x at *
      have hj := join_byte x (xs.getD i 0) g0 (by omega) e0 e1
      have HJ : Hid (bits .or .u64 (x * 256 % 18446744073709551616) (xs.getD i 0) = x * 256 + xs.getD i 0) := hj
      clear hj g1 g2
      generalize xs.getD i 0 = y at *
      have hw : IntKind.u64.wrap y = y := by rw [IntKind.wrap_u64]; omega
      go_wp2_with fail
      go_roundw
      case rel => exact ⟨i + 1, idx_up i, by omega, by rw [HF.out]; exact congrArg (Value.int .u64) HJ.out, trivial⟩
      case measure => simp [intOf]; omega
    · have he : i = xs.length := by omega
      subst he
      go_wp2_with fail
      go_ret
      exact ⟨rfl, rfl⟩

theorem byte_step (n : Int) (j : Nat) : n / 2 ^ (8 * j) / 256 = n / 2 ^ (8 * (j + 1)) := by
  rw [Int.ediv_ediv_of_nonneg (by exact Int.pow_nonneg (by omega)), show 8 * (j + 1) = 8 * j + 8 by omega, Int.pow_add]
  rfl

/-- The row of the bytes, the lowest j of k laid. -/
def bytesAt (n : Int) (k j : Nat) (t : Nat) : Value := .int .u8 (if k - j ≤ t then byteAt n (k - 1 - t) else 0)
theorem bytesAt_step {W wr : World} {ty : TypeId} {n : Int} {k j : Nat} (hj : j < k) {x : Int} (hx : x = byteAt n j) (h : Old W wr ∧ wr.rowIs W.heap.size ty k (bytesAt n k j)) :
    Old W (wr.setCell ⟨W.heap.size, k - 1 - j, none⟩ (.int .u8 x)) ∧ (wr.setCell ⟨W.heap.size, k - 1 - j, none⟩ (.int .u8 x)).rowIs W.heap.size ty k (bytesAt n k (j + 1)) := by
  refine ⟨h.1.setCell (Nat.le_refl _) _, (h.2.set (k - 1 - j) _).congr fun t ht => ?_⟩
  unfold bytesAt
  by_cases he : t = k - 1 - j
  · subst he
    rw [if_pos rfl, if_pos (by omega), hx, show k - 1 - (k - 1 - j) = j by omega]
  · rw [if_neg he]
    by_cases hl : k - j ≤ t
    · rw [if_pos hl, if_pos (by omega)]
    · rw [if_neg hl, if_neg (by omega)]
theorem bytesAt_start (W : World) (ty : TypeId) (n : Int) (k : Nat) : Old W (W.alloc (.cells (madeCells #[.int .u8 0] k) ty)) ∧ (W.alloc (.cells (madeCells #[.int .u8 0] k) ty)).rowIs W.heap.size ty k (bytesAt n k 0) :=
  ⟨(Old.refl W).alloc _, (World.rowIs_made W (.int .u8 0) k ty).congr fun t ht => by unfold bytesAt; rw [if_neg (by omega)]⟩
theorem bytesAt_text {P : Program} {b : Nat} {wr : World} {src e : TypeId} {ty : TypeId} {n : Int} {k : Nat} (hs : P.underlying src = some (.slice e)) (he : P.underlying e = some (.int .u8)) (hr : wr.rowIs b ty k (bytesAt n k k)) (dst : TypeId) (hd : P.underlying dst = some .string) :
    (convert src dst (.slice (some ⟨b, 0, none⟩) k k)).run P wr = .ok (.string (strOfNums (bytesL n k))) wr :=
  run_convert_bytes_arg wr src e hs he b 0 k k (bytesL n k) (bytesL_len n k) (fun i hi => by
    rw [Nat.zero_add, hr.cell hi]
    unfold bytesAt bytesL bytesP
    rw [if_pos (by omega)]
    simp [hi]) dst hd

theorem dbytes_any (n : Int) (k : Nat) (w : World) (hk : k ≤ 8) (hk0 : 0 < k) :
    Calls Try.prog 34 #[.int .u64 n, .int .i64 (k : Int)] w fun e w' => e = .returned (.string (strOfNums (bytesL n k))) ∧ Old w w' := by
  have hmk : ∀ wx, (Instr.makeSlice 47 (.int .i64 (k : Int)) (.int .i64 (k : Int))).run Try.prog wx = .ok (.slice (some ⟨wx.heap.size, 0, none⟩) k k) (wx.alloc (.cells (madeCells #[.int .u8 0] k) 5)) := run_make_row' (P := Try.prog) 47 5 (.int .u8 0) 1 Try.underlying47 u8info rfl .i64 .i64 k (by omega) (by omega)
  go_enter Try.func34, Try.ntmps34
  go_wp2_with fail
  go_loopw [0, 6] (fun nv iv wx => ∃ j r : Nat, j + r = k ∧ iv = .int .i64 ((r : Int) - 1) ∧ nv = .int .u64 (n / 2 ^ (8 * j)) ∧ Hid (Old w wx ∧ wx.rowIs w.heap.size 5 k (bytesAt n k j))) (fun _ iv _ => (intOf iv + 1).toNat)
  case atStart => exact ⟨0, k, by omega, rfl, by simp, bytesAt_start w _ n k⟩
  case round =>
    obtain ⟨j, r, hjr, rfl, rfl, HR⟩ := hrel
    cases r with
    | zero =>
      obtain rfl : j = k := by omega
      have hcv := bytesAt_text Try.underlying47 Try.underlying5 HR.out.2 9 Try.underlying9
      go_wp2_with fail
      go_ret
      exact ⟨rfl, HR.out.1⟩
    | succ q =>
      have eq : ((q + 1 : Nat) : Int) - 1 = (q : Int) := by omega
      simp only [eq]
      clear eq
      have hq : q = k - 1 - j := by omega
      have q0 : (0 : Int) ≤ (q : Int) := by omega
      have qk : (q : Int) < (k : Int) := by omega
      obtain ⟨vq, cq⟩ : ∃ v, wr.cell? ⟨w.heap.size, q, none⟩ = some (.int .u8 v) := ⟨_, HR.out.2.cell (i := q) (by omega)⟩
      have fq := HR.out.2.frozen q
      have hw : IntKind.u8.wrap (n / 2 ^ (8 * j)) = byteAt n j := IntKind.wrap_u8' _
      have HS : Hid (n / 2 ^ (8 * j) / 256 = n / 2 ^ (8 * (j + 1))) := byte_step n j
      have HT := bytesAt_step (x := byteAt n j) (show j < k by omega) rfl HR.out
      rw [← hq] at HT
      clear hq
      have HT : Hid (Old w (wr.setCell ⟨w.heap.size, q, none⟩ (.int .u8 (byteAt n j))) ∧ (wr.setCell ⟨w.heap.size, q, none⟩ (.int .u8 (byteAt n j))).rowIs w.heap.size 5 k (bytesAt n k (j + 1))) := HT
      generalize n / 2 ^ (8 * j) = m at *
      go_wp2_with fail
      go_roundw
      case rel => exact ⟨j + 1, q, by omega, rfl, by rw [← HS.out], HT⟩
      case measure => simp [intOf]

end Go.Proofs.Ytljfjjfckepkdab
