/-
  The contract of the document's Mac (layer 3).
-/
import Derived.Test.YtljfjjfckepkdabSum
namespace Go.Proofs.Ytljfjjfckepkdab
open Go.RowKit

theorem bts_app {xs ys : List Int} (hx : Bts xs) (hy : Bts ys) : Bts (xs ++ ys) := by
  intro x h
  rcases List.mem_append.1 h with h | h
  · exact hx x h
  · exact hy x h
theorem outL_bd (h : Nat → Int) : ∀ i, Bts (outL h i)
  | 0 => by intro x hx; cases hx
  | i + 1 => bts_app (outL_bd h i) (bytesL_bd _ _)
theorem sumL_len (xs : List Int) : (sumL xs).length = 32 := outL_len _ 8
theorem sumL_bd (xs : List Int) : Bts (sumL xs) := outL_bd _ 8

/-- Sum, of a list of bytes. -/
theorem sum_list (xs : List Int) (w : World) (h : Bts xs) (hl : xs.length ≤ 1000000) :
    Calls Try.prog 25 #[.string (strOfNums xs)] w fun e w' => e = .returned (.string (strOfNums (sumL xs))) ∧ Old w w' := by
  have := sum_any (strOfNums xs) w (by rw [strOfNums_size]; exact hl)
  rwa [nums_str h] at this

def xor8 (a b : Int) : Int := bits .xor .u8 a b
theorem xor8_bd (a b : Int) : 0 ≤ xor8 a b ∧ xor8 a b ≤ 255 := by
  have h1 := bits_lo_u8 .xor a b
  have h2 := bits_hi_u8 .xor a b
  exact ⟨h1, h2⟩
/-- A key of at most 64 bytes. -/
def keyK (k : List Int) : List Int := if 64 < k.length then sumL k else k
def masked (k : List Int) (b : Int) : List Int := (List.range 64).map fun i => xor8 (k.getD i 0) b
/-- HMAC of bytes. -/
def macL (k s : List Int) : List Int := sumL (masked (keyK k) 92 ++ sumL (masked (keyK k) 54 ++ s))

theorem masked_len (k : List Int) (b : Int) : (masked k b).length = 64 := by simp [masked]
theorem masked_bd (k : List Int) (b : Int) : Bts (masked k b) := by
  intro x hx
  obtain ⟨i, _, rfl⟩ := List.mem_map.1 hx
  exact xor8_bd _ _
theorem keyK_len (k : List Int) : (keyK k).length ≤ 64 := by
  unfold keyK
  split
  · rw [sumL_len]; omega
  · omega
theorem keyK_bd {k : List Int} (h : Bts k) : Bts (keyK k) := by
  unfold keyK
  split
  · exact sumL_bd _
  · exact h

theorem mask_step {b : Nat} {wr : World} {ty : TypeId} {k : List Int} {m : Int} {t : Nat} {x : Int} (hr : wr.rowIs b ty 64 (fun j => .int .u8 (if j < t then xor8 (k.getD j 0) m else 0))) (hx : x = xor8 (k.getD t 0) m) :
    (wr.setCell ⟨b, t, none⟩ (.int .u8 x)).rowIs b ty 64 (fun j => .int .u8 (if j < t + 1 then xor8 (k.getD j 0) m else 0)) := by
  refine (hr.set t _).congr fun j _ => ?_
  by_cases he : j = t
  · subst he
    rw [hx]
    simp
  · by_cases hl : j < t
    · simp [he, hl, show j < t + 1 by omega]
    · simp [he, hl, show ¬ j < t + 1 by omega]

/-- The row as a text. -/
theorem mask_text {P : Program} {b : Nat} {wr : World} {src e : TypeId} {ty : TypeId} {k : List Int} {m : Int} (hs : P.underlying src = some (.slice e)) (he : P.underlying e = some (.int .u8)) (hr : wr.rowIs b ty 64 (fun j => .int .u8 (if j < 64 then xor8 (k.getD j 0) m else 0))) (dst : TypeId) (hd : P.underlying dst = some .string) :
    (convert src dst (.slice (some ⟨b, 0, none⟩) 64 64)).run P wr = .ok (.string (strOfNums (masked k m))) wr :=
  run_convert_bytes_arg wr src e hs he b 0 64 64 (masked k m) (masked_len k m) (fun i hi => by
    rw [Nat.zero_add, hr.cell hi]
    simp [masked, hi]) dst hd

theorem str_index {k : List Int} (h : Bts k) {i : Nat} (hi : i < (strOfNums k).size) : (((strOfNums k)[i]'hi).toNat : Int) = k.getD i 0 := by
  have hl : i < k.length := by rw [strOfNums_size] at hi; exact hi
  have e : (strOfNums k)[i]'hi = UInt8.ofNat (k[i]).toNat := by
    show (strOfNums k).data[i] = _
    simp [strOfNums]
  rw [e]
  have hb := h k[i] (List.getElem_mem hl)
  simp [List.getD, hl]
  omega

theorem two_step {W wr : World} {ty : TypeId} {q : List Int} {t : Nat} {x y : Int} (h : Old W wr ∧ wr.rowIs W.heap.size ty 64 (fun j => .int .u8 (if j < t then xor8 (q.getD j 0) 54 else 0)) ∧ wr.rowIs (W.heap.size + 1) ty 64 (fun j => .int .u8 (if j < t then xor8 (q.getD j 0) 92 else 0)))
    (hx : x = xor8 (q.getD t 0) 54) (hy : y = xor8 (q.getD t 0) 92) :
    Old W ((wr.setCell ⟨W.heap.size, t, none⟩ (.int .u8 x)).setCell ⟨W.heap.size + 1, t, none⟩ (.int .u8 y)) ∧ ((wr.setCell ⟨W.heap.size, t, none⟩ (.int .u8 x)).setCell ⟨W.heap.size + 1, t, none⟩ (.int .u8 y)).rowIs W.heap.size ty 64 (fun j => .int .u8 (if j < t + 1 then xor8 (q.getD j 0) 54 else 0)) ∧
    ((wr.setCell ⟨W.heap.size, t, none⟩ (.int .u8 x)).setCell ⟨W.heap.size + 1, t, none⟩ (.int .u8 y)).rowIs (W.heap.size + 1) ty 64 (fun j => .int .u8 (if j < t + 1 then xor8 (q.getD j 0) 92 else 0)) := by
  refine ⟨(h.1.setCell (Nat.le_refl _) _).setCell (Nat.le_succ _) _, (mask_step h.2.1 hx).setOther (by simp) _, ?_⟩
  exact mask_step (h.2.2.setOther (by simp) _) hy

theorem two_start (W : World) (ty : TypeId) (q : List Int) : Old W ((W.alloc (.cells (madeCells #[.int .u8 0] 64) ty)).alloc (.cells (madeCells #[.int .u8 0] 64) ty)) ∧
    ((W.alloc (.cells (madeCells #[.int .u8 0] 64) ty)).alloc (.cells (madeCells #[.int .u8 0] 64) ty)).rowIs W.heap.size ty 64 (fun j => .int .u8 (if j < 0 then xor8 (q.getD j 0) 54 else 0)) ∧
    ((W.alloc (.cells (madeCells #[.int .u8 0] 64) ty)).alloc (.cells (madeCells #[.int .u8 0] 64) ty)).rowIs (W.heap.size + 1) ty 64 (fun j => .int .u8 (if j < 0 then xor8 (q.getD j 0) 92 else 0)) := by
  refine ⟨((Old.refl W).alloc _).alloc _, ((World.rowIs_made W (.int .u8 0) 64 ty).alloc _).congr fun i _ => by simp, ?_⟩
  have h := World.rowIs_made (W.alloc (.cells (madeCells #[.int .u8 0] 64) ty)) (.int .u8 0) 64 ty
  have e : (W.alloc (.cells (madeCells #[.int .u8 0] 64) ty)).heap.size = W.heap.size + 1 := by simp
  rw [e] at h
  exact h.congr fun i _ => by simp

theorem getD_past {q : List Int} {i : Nat} (h : ¬ i < q.length) : q.getD i 0 = 0 := by
  rw [List.getD, List.getElem?_eq_none (by omega)]
  rfl

set_option maxHeartbeats 2000000 in
theorem mac_any (k s : List Int) (w : World) (hk : Bts k) (hs : Bts s) (lk : k.length ≤ 100000) (ls : s.length ≤ 100000) :
    Calls Try.prog 15 #[.string (strOfNums k), .string (strOfNums s)] w fun e w' => e = .returned (.string (strOfNums (macL k s))) ∧ Old w w' := by
  have zk := strOfNums_size k
  have HB : Hid (Bts k ∧ Bts s) := ⟨hk, hs⟩
  clear hk hs
  have hmk : ∀ wx, (Instr.makeSlice 47 (.int .i64 64) (.int .i64 64)).run Try.prog wx = .ok (.slice (some ⟨wx.heap.size, 0, none⟩) 64 64) (wx.alloc (.cells (madeCells #[.int .u8 0] 64) 5)) := run_make_row' (P := Try.prog) 47 5 (.int .u8 0) 1 Try.underlying47 u8info rfl .i64 .i64 64 (by omega) (by omega)
  go_enter Try.func15, Try.ntmps15
  go_upto_if 11 with fail
  go_cut [0] (fun kv wx => kv = .string (strOfNums (keyK k)) ∧ Old w wx)
  case first =>
    by_cases hlt : 64 < k.length
    · have HE : Hid (keyK k = sumL k) := by unfold Hid keyK; rw [if_pos hlt]
      go_wp2_with (go_at_call 25; refine (sum_list k _ HB.out.1 (by omega)).mono ?_; rintro e w' ⟨rfl, ho⟩)
      go_meet
      case rel => exact ⟨by rw [HE.out], ho⟩
    · have HE : Hid (keyK k = k) := by unfold Hid keyK; rw [if_neg hlt]
      go_wp2_with fail
      go_meet
      case rel => exact ⟨by rw [HE.out], Old.refl _⟩
  obtain ⟨rfl, hold⟩ := hcut
  have HK : Hid (Bts (keyK k)) := keyK_bd HB.out.1
  have HM : Hid (macL k s = sumL (masked (keyK k) 92 ++ sumL (masked (keyK k) 54 ++ s))) := rfl
  have lq := keyK_len k
  generalize keyK k = q at *
  clear zk
  have zq := strOfNums_size q
  obtain ⟨W0, hW0⟩ : ∃ x, x = wc := ⟨_, rfl⟩
  subst hW0
  have HO : Hid (Old w W0) := hold
  clear hold
  go_wp2_with fail
  go_loopw [7] (fun iv wx => ∃ i : Nat, iv = .int .i64 (i : Int) ∧ i ≤ 64 ∧ Hid (Old W0 wx ∧ wx.rowIs W0.heap.size 5 64 (fun j => .int .u8 (if j < i then xor8 (q.getD j 0) 54 else 0)) ∧ wx.rowIs (W0.heap.size + 1) 5 64 (fun j => .int .u8 (if j < i then xor8 (q.getD j 0) 92 else 0)))) (fun iv _ => 64 - (intOf iv).toNat)
  case atStart => exact ⟨0, rfl, Nat.zero_le _, two_start W0 5 q⟩
  case round =>
    obtain ⟨i, rfl, hi, HR⟩ := hrel
    by_cases hlt : i < 64
    · have c1 := HR.out.2.1.cell hlt
      have c2 := HR.out.2.2.cell hlt
      have f1 := HR.out.2.1.frozen i
      have f2 := HR.out.2.2.frozen i
      by_cases hq : i < q.length
      · go_wp2_with fail
        go_roundw
        case rel => exact ⟨i + 1, idx_up i, by omega, two_step HR.out (congrArg (xor8 · 54) (str_index HK.out _)) (congrArg (xor8 · 92) (str_index HK.out _))⟩
        case measure => simp [intOf]; omega
      · go_wp2_with fail
        go_roundw
        case rel => exact ⟨i + 1, idx_up i, by omega, two_step HR.out (by rw [getD_past hq]; rfl) (by rw [getD_past hq]; rfl)⟩
        case measure => simp [intOf]; omega
    · have he : i = 64 := by omega
      subst he
      have cI : ∀ w', Old wr w' → (convert 47 9 (.slice (some ⟨W0.heap.size, 0, none⟩) 64 64)).run Try.prog w' = .ok (.string (strOfNums (masked q 54))) w' := fun w' h => mask_text Try.underlying47 Try.underlying5 (h.row HR.out.2.1) _ Try.underlying9
      have cO : ∀ w', Old wr w' → (convert 47 9 (.slice (some ⟨W0.heap.size + 1, 0, none⟩) 64 64)).run Try.prog w' = .ok (.string (strOfNums (masked q 92))) w' := fun w' h => mask_text Try.underlying47 Try.underlying5 (h.row HR.out.2.2) _ Try.underlying9
      have hadd : ∀ xs ys : List Int, strOfNums xs ++ strOfNums ys = strOfNums (xs ++ ys) := str_add
      have hsz : ∀ xs : List Int, (strOfNums xs).size = xs.length := strOfNums_size
      have m1 := masked_len q 54
      have m2 := masked_len q 92
      have m3 := sumL_len (masked q 54 ++ s)
      have lb : 64 + s.length ≤ 9223372036854775807 := by omega
      have lb' : ¬ 9223372036854775807 < 64 + s.length := by omega
      go_wp2_with fail
      go_region_held3 (fun w' => Old wr w') (first | assumption | exact (Old.refl _).drew | exact Old.trans (by assumption) (by assumption)) (first
        | (go_at_call_of 25 (Value.string (strOfNums (masked q 54 ++ s))); refine (sum_list _ _ (bts_app (masked_bd _ _) HB.out.2) (by rw [List.length_append, masked_len]; omega)).mono ?_; rintro e w' ⟨rfl, ho⟩)
        | (go_at_call_of 25 (Value.string (strOfNums (masked q 92 ++ sumL (masked q 54 ++ s)))); refine (sum_list _ _ (bts_app (masked_bd _ _) (sumL_bd _)) (by rw [List.length_append, masked_len, sumL_len]; omega)).mono ?_; rintro e w' ⟨rfl, ho⟩))
      go_wp2_with fail
      go_ret
      exact ⟨by rw [HM.out]; rfl, (HO.out.trans HR.out.1).trans (by assumption)⟩

end Go.Proofs.Ytljfjjfckepkdab
