/-
  The contract of the program's Mac (layer 3).
-/
import Derived.Test.YtljfjjfckepkdabDsums
namespace Go.Proofs.Ytljfjjfckepkdab
open Go.RowKit

/-- Bytes that lie in a row and may be written. -/
def BytesIn (w : World) (g n : Nat) (f : Nat → Int) : Prop := ∀ j, j < n → w.cell? ⟨g, j, none⟩ = some (.int .u8 (f j)) ∧ w.frozen? ⟨g, j, none⟩ = false
theorem BytesIn.set {w : World} {g n : Nat} {f : Nat → Int} (h : BytesIn w g n f) {i : Nat} (hi : i < n) (x : Int) : BytesIn (w.setCell ⟨g, i, none⟩ (.int .u8 x)) g n (fun j => if j = i then x else f j) := by
  intro j hj
  refine ⟨?_, by rw [World.frozen?_setCell]; exact (h j hj).2⟩
  by_cases he : j = i
  · subst he
    rw [World.cell?_setCell_same _ _ _ (h j hj).1]
    simp
  · rw [World.cell?_setCell_other _ _ _ _ (fun e => he (congrArg Addr.off e).symm), (h j hj).1]
    simp [he]
theorem BytesIn.congr {w : World} {g n : Nat} {f f' : Nat → Int} (h : BytesIn w g n f) (e : ∀ j, j < n → f j = f' j) : BytesIn w g n f' := fun j hj => ⟨by rw [(h j hj).1, e j hj], (h j hj).2⟩
/-- What []byte lays. -/
theorem bytes_laid (w : World) (xs : List Int) (t : TypeId) (cap : Nat) (hx : Bts xs) (h : xs.length ≤ cap) :
    BytesIn (w.alloc (.cells (bytesRow (strOfNums xs) cap) t ((bytesRow (strOfNums xs) cap).size, (bytesRow (strOfNums xs) cap).size + 1))) w.heap.size xs.length (fun j => xs.getD j 0) := by
  have hsz : (bytesRow (strOfNums xs) cap).size = cap := by
    unfold bytesRow
    rw [Array.size_append, Array.size_map, Array.size_replicate]
    have h1 : (strOfNums xs).data.size = (strOfNums xs).size := rfl
    have h2 := strOfNums_size xs
    omega
  intro j hj
  refine ⟨?_, ?_⟩
  · rw [World.cell?_alloc_mark, bytesRow_at _ _ _ (by have : (strOfNums xs).data.size = xs.length := strOfNums_size xs; omega)]
    have e := str_index hx (i := j) (by rw [strOfNums_size]; exact hj)
    show some (Value.int .u8 _) = some (Value.int .u8 (xs.getD j 0))
    rw [← e]
    rfl
  · rw [World.frozen?_alloc_mark, hsz]
    simp
    omega

theorem mask_row {wr : World} {W : World} {g : Nat} {q : List Int} {m : Int} {i : Nat} {x : Int} (hi : i < 64) (h : Old W wr ∧ W.heap.size ≤ g ∧ BytesIn wr g 64 (fun j => if j < i then xor8 (q.getD j 0) m else q.getD j 0)) (hx : x = xor8 (q.getD i 0) m) :
    Old W (wr.setCell ⟨g, i, none⟩ (.int .u8 x)) ∧ W.heap.size ≤ g ∧ BytesIn (wr.setCell ⟨g, i, none⟩ (.int .u8 x)) g 64 (fun j => if j < i + 1 then xor8 (q.getD j 0) m else q.getD j 0) := by
  refine ⟨h.1.setCell h.2.1 _, h.2.1, (h.2.2.set hi x).congr fun j _ => ?_⟩
  by_cases he : j = i
  · subst he
    rw [hx]
    simp
  · by_cases hl : j < i
    · simp [he, hl, show j < i + 1 by omega]
    · simp [he, hl, show ¬ j < i + 1 by omega]

theorem mask_done {P : Program} {g cap : Nat} {wr : World} {src e : TypeId} {q : List Int} {m : Int} (hs : P.underlying src = some (.slice e)) (he : P.underlying e = some (.int .u8)) (hr : BytesIn wr g 64 (fun j => if j < 64 then xor8 (q.getD j 0) m else q.getD j 0)) (dst : TypeId) (hd : P.underlying dst = some .string) :
    (convert src dst (.slice (some ⟨g, 0, none⟩) 64 cap)).run P wr = .ok (.string (strOfNums (masked q m))) wr :=
  run_convert_bytes_arg wr src e hs he g 0 64 cap (masked q m) (masked_len q m) (fun i hi => by
    rw [Nat.zero_add, (hr i hi).1]
    simp [masked, hi]) dst hd

set_option maxHeartbeats 2000000 in
theorem dmask_any (q : List Int) (m : Int) (w : World) (hq : Bts q) (hl : q.length = 64) :
    Calls Try.prog 24 #[.string (strOfNums q), .int .u8 m] w fun e w' => e = .returned (.string (strOfNums (masked q m))) ∧ Old w w' := by
  have hcv := fun wx => run_bytes_of_string (P := Try.prog) wx 9 47 5 (strOfNums q) Try.underlying9 Try.underlying47 Try.underlying5
  have hsz : (strOfNums q).size = 64 := by rw [strOfNums_size]; exact hl
  have HQ : Hid (Bts q) := hq
  clear hq
  go_enter Try.func24, Try.ntmps24
  go_upto_region 2 with fail
  clear hcv
  have hcap := grownCap_ge w 64 0 5
  have H0 : Hid (Old w (w.alloc (.cells (bytesRow (strOfNums q) (grownCap w 64 0 5)) 5 ((bytesRow (strOfNums q) (grownCap w 64 0 5)).size, (bytesRow (strOfNums q) (grownCap w 64 0 5)).size + 1))).drew ∧ w.heap.size ≤ w.heap.size ∧ BytesIn (w.alloc (.cells (bytesRow (strOfNums q) (grownCap w 64 0 5)) 5 ((bytesRow (strOfNums q) (grownCap w 64 0 5)).size, (bytesRow (strOfNums q) (grownCap w 64 0 5)).size + 1))).drew w.heap.size 64 (fun j => if j < 0 then xor8 (q.getD j 0) m else q.getD j 0)) := by
    refine ⟨((Old.refl w).alloc _).drew, Nat.le_refl _, ?_⟩
    have := bytes_laid w q 5 (grownCap w 64 0 5) HQ.out (by omega)
    rw [hl] at this
    exact BytesIn.congr this fun j _ => by simp
  generalize (w.alloc (.cells (bytesRow (strOfNums q) (grownCap w 64 0 5)) 5 ((bytesRow (strOfNums q) (grownCap w 64 0 5)).size, (bytesRow (strOfNums q) (grownCap w 64 0 5)).size + 1))).drew = W0 at *
  generalize grownCap w 64 0 5 = cap at *
  go_wp2_with fail
  go_loopw [11] (fun iv wx => ∃ i : Nat, iv = .int .i64 (i : Int) ∧ i ≤ 64 ∧ Hid (Old w wx ∧ w.heap.size ≤ w.heap.size ∧ BytesIn wx w.heap.size 64 (fun j => if j < i then xor8 (q.getD j 0) m else q.getD j 0))) (fun iv _ => 64 - (intOf iv).toNat)
  case atStart => exact ⟨0, rfl, Nat.zero_le _, H0⟩
  case round =>
    obtain ⟨i, rfl, hi, HR⟩ := hrel
    by_cases hlt : i < 64
    · have ci : wr.cell? ⟨w.heap.size, i, none⟩ = some (.int .u8 (q.getD i 0)) := by
        have := (HR.out.2.2 i hlt).1
        simpa using this
      have fi := (HR.out.2.2 i hlt).2
      have HX : Hid (∃ x, x = q.getD i 0) := ⟨_, rfl⟩
      obtain ⟨x, hx⟩ := HX.out
      rw [← hx] at ci
      have HX : Hid (x = q.getD i 0) := hx
      clear hx
      go_wp2_with fail
      go_roundw
      case rel => exact ⟨i + 1, by go_num, by omega, mask_row hlt HR.out (by rw [← HX.out]; rfl)⟩
      case measure => simp [intOf]; omega
    · have he : i = 64 := by omega
      subst he
      have hcv := mask_done (cap := cap) Try.underlying47 Try.underlying5 HR.out.2.2 9 Try.underlying9
      go_wp2_with fail
      go_ret
      exact ⟨rfl, HR.out.1⟩

theorem masked_pad (q : List Int) (m : Int) : masked (q ++ List.replicate (64 - q.length) 0) m = masked q m := by
  unfold masked
  refine List.map_congr_left fun i hi => ?_
  have h64 : i < 64 := by simpa using hi
  have e : (q ++ List.replicate (64 - q.length) 0).getD i 0 = q.getD i 0 := by
    by_cases hl : i < q.length
    · rw [List.getD, List.getElem?_append_left hl, List.getD]
    · rw [List.getD, List.getElem?_append_right (by omega), List.getElem?_replicate, if_pos (by omega), List.getD, List.getElem?_eq_none (by omega)]
      rfl
  rw [e]

end Go.Proofs.Ytljfjjfckepkdab
