/-
  How a list of rows lies in memory, and that it lies there still behind whatever leaves old memory alone.
-/
import Derived.Test.YtmmicbdjafolpaeCert
import Derived.WalkKit
import Derived.Below
import Derived.Deep.QuietTactic
import Derived.BigQuiet
import Derived.WalkSmall
namespace Go.Proofs.Ytmmicbdjafolpae
open Go.RowKit

/-- Numbers that lie one behind the other. -/
def FacsIn (w : World) (a : Option Addr) (len : Nat) (F : Nat → Int) : Prop :=
  len = 0 ∨ ∃ b off, a = some ⟨b, off, none⟩ ∧ b < w.heap.size ∧ ∀ j, j < len → w.cell? ⟨b, off + j, none⟩ = some (.int .u64 (F j)) ∧ 0 ≤ F j ∧ F j ≤ 18446744073709551615

/-- One row in its three cells. -/
structure RowAt (w : World) (b off : Nat) (n A : Int) (FA : Option Addr) (L C : Nat) (F : Nat → Int) : Prop where
  c0 : w.cell? ⟨b, off, none⟩ = some (.int .u64 n)
  c1 : w.cell? ⟨b, off + 1, none⟩ = some (.int .u64 A)
  c2 : w.cell? ⟨b, off + 2, none⟩ = some (.slice FA L C)
  n0 : 0 ≤ n
  n1 : n ≤ 18446744073709551615
  a0 : 0 ≤ A
  a1 : A ≤ 18446744073709551615
  l0 : L ≤ C
  l1 : C ≤ maxLen
  facs : FacsIn w FA L F

/-- Rows that lie one behind the other. -/
def RowsIn (w : World) (a : Option Addr) (n : Nat) (N A : Nat → Int) (FA : Nat → Option Addr) (L C : Nat → Nat) (F : Nat → Nat → Int) : Prop :=
  n = 0 ∨ ∃ b off, a = some ⟨b, off, none⟩ ∧ b < w.heap.size ∧ ∀ i, i < n → RowAt w b (off + i * 3) (N i) (A i) (FA i) (L i) (C i) (F i)

theorem FacsIn.below {w w' : World} {a : Option Addr} {len : Nat} {F : Nat → Int} (h : FacsIn w a len F) (hb : Below w.heap.size w w') : FacsIn w' a len F := by
  rcases h with h | ⟨b, off, ha, hl, hc⟩
  · exact Or.inl h
  · exact Or.inr ⟨b, off, ha, Nat.lt_of_lt_of_le hl hb.size, fun j hj => ⟨(hb.cell hl).trans (hc j hj).1, (hc j hj).2⟩⟩

theorem RowAt.below {w w' : World} {b off : Nat} {n A : Int} {FA : Option Addr} {L C : Nat} {F : Nat → Int} (h : RowAt w b off n A FA L C F) (hl : b < w.heap.size) (hb : Below w.heap.size w w') : RowAt w' b off n A FA L C F where
  c0 := (hb.cell hl).trans h.c0
  c1 := (hb.cell hl).trans h.c1
  c2 := (hb.cell hl).trans h.c2
  n0 := h.n0
  n1 := h.n1
  a0 := h.a0
  a1 := h.a1
  l0 := h.l0
  l1 := h.l1
  facs := h.facs.below hb

theorem RowsIn.below {w w' : World} {a : Option Addr} {n : Nat} {N A : Nat → Int} {FA : Nat → Option Addr} {L C : Nat → Nat} {F : Nat → Nat → Int} (h : RowsIn w a n N A FA L C F) (hb : Below w.heap.size w w') : RowsIn w' a n N A FA L C F := by
  rcases h with h | ⟨b, off, ha, hl, hc⟩
  · exact Or.inl h
  · exact Or.inr ⟨b, off, ha, Nat.lt_of_lt_of_le hl hb.size, fun i hi => (hc i hi).below hl hb⟩

theorem RowsIn.take {w : World} {a : Option Addr} {n k : Nat} {N A : Nat → Int} {FA : Nat → Option Addr} {L C : Nat → Nat} {F : Nat → Nat → Int} (h : RowsIn w a n N A FA L C F) (hk : k ≤ n) : RowsIn w a k N A FA L C F := by
  rcases h with h | ⟨b, off, ha, hl, hc⟩
  · exact Or.inl (by omega)
  · exact Or.inr ⟨b, off, ha, hl, fun i hi => hc i (by omega)⟩

theorem RowsIn.a0 {w : World} {a : Option Addr} {n : Nat} {N A : Nat → Int} {FA : Nat → Option Addr} {L C : Nat → Nat} {F : Nat → Nat → Int} (h : RowsIn w a n N A FA L C F) : ∀ i, i < n → 0 ≤ A i := by
  intro i hi
  rcases h with h | ⟨b, off, ha, hl, hc⟩
  · omega
  · exact (hc i hi).a0

theorem ret_bool {a b : Bool} (h : a = b) : Ending.returned (.bool a) = .returned (.bool b) := by rw [h]

theorem below_new {w w' : World} (h : Below w.heap.size w w') (o : Obj) : Below w.heap.size w (w'.alloc o) := h.alloc h.size o

theorem upto_succ {P : Nat → Prop} {i : Nat} (h : ∀ j, j < i → P j) (hi : P i) : ∀ j, j < i + 1 → P j := by
  intro j hj
  by_cases he : j = i
  · rw [he]; exact hi
  · exact h j (by omega)

theorem idx_next (i : Nat) : Value.int .i64 ((i : Int) + 1) = .int .i64 ((i + 1 : Nat) : Int) := by
  rw [Int.natCast_add]
  rfl

theorem below_draws {w w' : World} (h : ∃ n, w' = w.drewN n) : Below w.heap.size w w' := by
  obtain ⟨n, rfl⟩ := h
  exact below_drewN (Below.refl _ _) n

/-- Old memory is alone still behind a second step. -/
theorem below_then {w w1 w2 : World} (h1 : Below w.heap.size w w1) (h2 : Below w1.heap.size w1 w2) : Below w.heap.size w w2 := h1.trans (h2.mono h1.size)

end Go.Proofs.Ytmmicbdjafolpae
