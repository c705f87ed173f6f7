/-
  A strings.Builder that holds a list of bytes (layer 3).
-/
import Derived.Test.YtljfjjfckepkdabShelf
import Derived.Test.YtljfjjfckepkdabMac
import Derived.Deep.WholeRow
namespace Go.Proofs.Ytljfjjfckepkdab
open Go.RowKit

/-- The builder at block b holds the bytes xs; what it owns lies from block B on. -/
def Bld (B b : Nat) (xs : List Int) (w : World) : Prop := Lib.IsBuilder 61 5 B b (Lib.byteCells (strOfNums xs).data.toList) w

theorem owns_old {w w' : World} {base : Nat} {e : TypeId} {size : Nat} {v : Value} {n : Nat} {xs : List Value} (h : w.ownsRow base e size v n xs) (ho : Old w w') : w'.ownsRow base e size v n xs := by
  refine ⟨h.1, ?_⟩
  rcases h.2 with h0 | ⟨g, cap, cur, hv, hg, hh, hr⟩
  · exact Or.inl h0
  · refine Or.inr ⟨g, cap, cur, hv, hg, ?_, hr⟩
    rw [ho.block g (Array.getElem?_eq_some_iff.1 hh).1]
    exact hh
theorem builder_old {T e : TypeId} {B b : Nat} {p : Value} {bs : List Value} {w w' : World} (h : Lib.BuilderAt T e B b p bs w) (ho : Old w w') : Lib.BuilderAt T e B b p bs w' := by
  obtain ⟨hB, v, hb, hown, hne⟩ := h
  exact ⟨hB, v, by rw [ho.block b (Array.getElem?_eq_some_iff.1 hb).1]; exact hb, owns_old hown ho, hne⟩
theorem Bld.old {B b : Nat} {xs : List Int} {w w' : World} (h : Bld B b xs w) (ho : Old w w') : Bld B b xs w' :=
  h.imp (fun h => builder_old h ho) (fun h => builder_old h ho)
theorem Bld.new (w : World) : Bld w.heap.size w.heap.size [] (w.alloc (.cells #[.pointer none, .slice none 0 0] 61)) := by
  refine Or.inl ⟨Nat.le_refl _, .slice none 0 0, ?_, ?_, ?_⟩
  · exact heap_alloc_last w _
  · exact World.ownsRow_nil _ _ _ _
  · simp [Value.ownBlock]

theorem cells_app (xs ys : List Int) : Lib.byteCells (strOfNums xs).data.toList ++ Lib.strCells (strOfNums ys) = Lib.byteCells (strOfNums (xs ++ ys)).data.toList := by
  unfold Lib.byteCells Lib.strCells
  rw [← List.map_append]
  simp [strOfNums]
theorem cells_len (xs : List Int) : (Lib.byteCells (strOfNums xs).data.toList).length = xs.length := by
  unfold Lib.byteCells
  rw [List.length_map, Array.length_toList]
  exact strOfNums_size xs

theorem bld_write (B b : Nat) (xs ys : List Int) (w : World) (h : Bld B b xs w) (hlen : xs.length + ys.length ≤ 1000000000) (hB : B ≤ w.heap.size) :
    Calls Try.prog 33 #[.pointer (some ⟨b, 0, none⟩), .string (strOfNums ys)] w fun e w' => e = .returned (.tuple #[.int .i64 (ys.length : Int), .nilIface]) ∧ Bld B b (xs ++ ys) w' ∧ Below B w w' := by
  have h1 := Any.Builder_WriteString (P := Try.prog) (ρ := Try.lays105_ren) { Try.lays105 with } Try.Builder_Extra_105 B b (Lib.byteCells (strOfNums xs).data.toList) (strOfNums ys) w h (by rw [cells_len, strOfNums_size]; omega) hB
  refine h1.mono ?_
  rintro e w' ⟨rfl, hb, hbel⟩
  refine ⟨by rw [strOfNums_size], Or.inr ?_, hbel⟩
  rw [← cells_app]
  exact hb
theorem bld_string (B b : Nat) (xs : List Int) (w : World) (h : Bld B b xs w) (hB : B ≤ w.heap.size) :
    Calls Try.prog 35 #[.pointer (some ⟨b, 0, none⟩)] w fun e w' => e = .returned (.string (strOfNums xs)) ∧ Below B w w' :=
  Try.Builder_String_any B b (strOfNums xs).data.toList w h hB
theorem bld_len (B b : Nat) (xs : List Int) (w : World) (h : Bld B b xs w) :
    Calls Try.prog 39 #[.pointer (some ⟨b, 0, none⟩)] w fun e w' => e = .returned (.int .i64 (xs.length : Int)) ∧ w' = w := by
  have := Try.Builder_Len B b _ w h
  rwa [cells_len] at this

/-- From what a builder does to what was there before it. -/
theorem Old.thenBelow {a c d : World} {B : Nat} (h : Old a c) (hB : a.heap.size ≤ B) (hb : Below B c d) : Old a d :=
  ⟨hb.os.trans h.os, hb.output.trans h.output, Nat.le_trans h.size hb.size, fun k hk => (hb.block k (Nat.lt_of_lt_of_le hk hB)).trans (h.block k hk)⟩
theorem row_below {c d : World} {B b : Nat} {t : TypeId} {n : Nat} {f : Nat → Value} (hb : Below B c d) (h : c.rowIs b t n f) (hlt : b < B) : d.rowIs b t n f := h.of_block (hb.block b hlt)

theorem repeat_zero : ∀ c : Nat, Lib.repeatL [0] c = (List.replicate c (0 : Int)).map (fun n => UInt8.ofNat n.toNat)
  | 0 => rfl
  | c + 1 => by
    show [0] ++ Lib.repeatL [0] c = _
    rw [repeat_zero c]
    rfl
/-- So many bytes 0. -/
theorem drepeat_any (c : Nat) (w : World) (hc : c ≤ 1000000) :
    Calls Try.prog 23 #[.string ⟨#[0]⟩, .int .i64 (c : Int)] w fun e w' => e = .returned (.string (strOfNums (List.replicate c 0))) ∧ Old w w' := by
  refine (Try.strings_Repeat ⟨#[0]⟩ c w (by omega) (by show 1 * c ≤ _; omega)).mono ?_
  rintro e w' ⟨rfl, hb⟩
  refine ⟨?_, Old.ofBelow hb⟩
  rw [repeat_zero]
  rfl

/-- What follows a text of n bytes. -/
def endL (n : Nat) : List Int := [128] ++ List.replicate (zeros n) 0 ++ bytesL ((n : Int) * 8) 8
theorem endL_len (n : Nat) : (endL n).length = 1 + zeros n + 8 := by
  simp [endL, bytesL_len]
  omega

end Go.Proofs.Ytljfjjfckepkdab
