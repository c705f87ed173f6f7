/-
  The document's Right (layer 4).
-/
import Derived.Test.YtljfjjfckepkdadGref
namespace Go.Proofs.Ytljfjjfckepkdad
open Go.RowKit

/-- A group, laid out. -/
abbrev go (P Q G H : Int) (a : Option Addr) (n cap : Nat) (t : TypeId) : Obj := .cells #[.int .u64 P, .int .u64 Q, .int .u64 G, .int .u64 H, .slice a n cap] t
/-- Behind a group that was laid out. -/
def Beh (w : World) (P Q G H : Int) (a : Option Addr) (n cap : Nat) (w' : World) : Prop := ∃ t, Old (w.alloc (go P Q G H a n cap t)) w'
theorem Beh.old {w w' : World} {P Q G H : Int} {a : Option Addr} {n cap : Nat} (h : Beh w P Q G H a n cap w') : Old w w' := by
  obtain ⟨t, h⟩ := h
  exact ((Old.refl w).alloc _).trans h
theorem Beh.new (w : World) (P Q G H : Int) (a : Option Addr) (n cap : Nat) (t : TypeId) : Beh w P Q G H a n cap (w.alloc (go P Q G H a n cap t)) := ⟨t, Old.refl _⟩
theorem Beh.then {w w1 w2 : World} {P Q G H : Int} {a : Option Addr} {n cap : Nat} (h : Beh w P Q G H a n cap w1) (k : Old w1 w2) : Beh w P Q G H a n cap w2 := by
  obtain ⟨t, h⟩ := h
  exact ⟨t, h.trans k⟩
theorem Beh.cell {w w' : World} {P Q G H : Int} {a : Option Addr} {n cap : Nat} (h : Beh w P Q G H a n cap w') {j : Nat} {v : Value} (hv : (#[.int .u64 P, .int .u64 Q, .int .u64 G, .int .u64 H, .slice a n cap] : Array Value)[j]? = some v) : w'.cell? ⟨w.heap.size, j, none⟩ = some v := by
  obtain ⟨t, h⟩ := h
  exact h.cellOf ((gcell w t j).trans hv)
theorem FacsIn.old {w w' : World} {a : Option Addr} {len : Nat} {F : Nat → Int} (h : FacsIn w a len F) (hb : Old w w') : FacsIn w' a len F := by
  rcases h with h | ⟨b, off, ha, hl, hc⟩
  · exact Or.inl h
  · exact Or.inr ⟨b, off, ha, Nat.lt_of_lt_of_le hl hb.size, fun j hj => ⟨(hb.cell hl).trans (hc j hj).1, (hc j hj).2⟩⟩
theorem RowAt.old {w w' : World} {b off : Nat} {n A : Int} {FA : Option Addr} {L C : Nat} {F : Nat → Int} (h : RowAt w b off n A FA L C F) (hl : b < w.heap.size) (hb : Old w w') : RowAt w' b off n A FA L C F where
  c0 := (hb.cell hl).trans h.c0
  c1 := (hb.cell hl).trans h.c1
  c2 := (hb.cell hl).trans h.c2
  n0 := h.n0
  n1 := h.n1
  a0 := h.a0
  a1 := h.a1
  l0 := h.l0
  l1 := h.l1
  facs := h.facs.old hb
theorem RowsIn.old {w w' : World} {a : Option Addr} {n : Nat} {N A : Nat → Int} {FA : Nat → Option Addr} {L C : Nat → Nat} {F : Nat → Nat → Int} (h : RowsIn w a n N A FA L C F) (hb : Old w w') : RowsIn w' a n N A FA L C F := by
  rcases h with h | ⟨b, off, ha, hl, hc⟩
  · exact Or.inl h
  · exact Or.inr ⟨b, off, ha, Nat.lt_of_lt_of_le hl hb.size, fun i hi => (hc i hi).old hl hb⟩

/-- A group? -/
def rightI (P Q G H : Int) (N A : Nat → Int) (F : Nat → Nat → Int) (L : Nat → Nat) (n : Nat) : Bool :=
  decide (5 ≤ Q) && decide (Q < 2305843009213693952) && (P == 2 * Q + 1) && provedB N A F L n P && provedB N A F L n Q && inI P Q G && inI P Q H && !(G == 1) && !(H == 1) && !(G == H)

end Go.Proofs.Ytljfjjfckepkdad
