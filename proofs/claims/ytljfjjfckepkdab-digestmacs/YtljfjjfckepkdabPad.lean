/-
  Texts as lists of numbers, and a text's bytes as they lie in a new row.
-/
import Derived.Test.YtljfjjfckepkdabSha
import Derived.Test.YtljfjjfckepkdabOld
import Derived.Laws.IdiomStrings
namespace Go.Proofs.Ytljfjjfckepkdab
open Go.RowKit

/-- A text's bytes as numbers. -/
def numsOf (s : ByteArray) : List Int := s.data.toList.map fun b => (b.toNat : Int)
theorem numsOf_len (s : ByteArray) : (numsOf s).length = s.size := by
  unfold numsOf
  rw [List.length_map, Array.length_toList]
  rfl
theorem numsOf_str (s : ByteArray) : strOfNums (numsOf s) = s := by
  have : ∀ l : List UInt8, (l.map fun b => (b.toNat : Int)).map (fun n => UInt8.ofNat n.toNat) = l := by
    intro l
    induction l with
    | nil => rfl
    | cons b l ih => simp only [List.map_cons, ih]; simp
  unfold strOfNums numsOf
  rw [this]
theorem numsOf_bd (s : ByteArray) : ∀ x ∈ numsOf s, 0 ≤ x ∧ x ≤ 255 := by
  intro x hx
  obtain ⟨b, _, rfl⟩ := List.mem_map.1 hx
  have := b.toNat_lt
  omega
/-- Bytes as numbers are bytes. -/
def Bts (xs : List Int) : Prop := ∀ x ∈ xs, 0 ≤ x ∧ x ≤ 255
theorem nums_str {xs : List Int} (h : Bts xs) : numsOf (strOfNums xs) = xs := by
  unfold numsOf
  rw [strOfNums_data, List.map_map]
  conv => rhs; rw [← List.map_id xs]
  refine List.map_congr_left fun x hx => ?_
  have := h x hx
  simp
  omega
theorem str_add (xs ys : List Int) : strOfNums xs ++ strOfNums ys = strOfNums (xs ++ ys) := by
  apply ByteArray.ext
  simp [strOfNums]
theorem byteCells_nums (s : ByteArray) : byteCells s = (numsOf s).map (Value.int .u8) := by
  simp [byteCells, numsOf]
theorem byteAt_bd (n : Int) (i : Nat) : 0 ≤ byteAt n i ∧ byteAt n i ≤ 255 := by
  unfold byteAt
  omega
theorem bytesL_bd (n : Int) (k : Nat) : Bts (bytesL n k) := by
  intro x hx
  obtain ⟨t, _, rfl⟩ := List.mem_map.1 hx
  exact byteAt_bd _ _
theorem bytesL_len (n : Int) (k : Nat) : (bytesL n k).length = k := bytesP_len n k k

/-- The row that []byte lays: its bytes lie at its head; behind them there is room that may be written. -/
theorem came_bytes (w : World) (s : ByteArray) (t : TypeId) (cap : Nat) (h : s.size ≤ cap) :
    Came (w.alloc (.cells (bytesRow s cap) t ((bytesRow s cap).size, (bytesRow s cap).size + 1))) 1 (some ⟨w.heap.size, 0, none⟩) w.heap.size 0 s.size cap ((numsOf s).map (Value.int .u8)) := by
  have hsz : (bytesRow s cap).size = cap := by
    unfold bytesRow
    rw [Array.size_append, Array.size_map, Array.size_replicate]
    have : s.data.size = s.size := rfl
    omega
  refine ⟨h, fun _ => rfl, fun _ => by simp, by simp [numsOf_len], fun j u hj => ?_, fun j hj => ⟨?_, ?_⟩⟩
  · have hj' : j < s.data.size := by
      have := (List.getElem?_eq_some_iff.1 hj).1
      simpa [numsOf] using this
    rw [Nat.zero_add, World.cell?_alloc_mark, bytesRow_at s cap j hj', ← hj]
    simp [numsOf, Array.getElem?_eq_getElem hj']
  · rw [World.cell?_alloc_mark, Array.getElem?_eq_getElem (by rw [hsz]; omega)]
    rfl
  · rw [World.frozen?_alloc_mark, hsz]
    simp
    omega

end Go.Proofs.Ytljfjjfckepkdab
