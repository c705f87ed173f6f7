/-
  How a claim lies in memory, and what claim is one, as plain functions (layer 6).
-/
import Derived.Test.YtmmicbdjafolpaeVapp
import Derived.Test.YtmmicbdjafolpaeLmath
namespace Go.Proofs.Ytmmicbdjafolpae
open Go.RowKit

/-- Lists of numbers that lie one behind the other. -/
def ListsIn (w : World) (a : Option Addr) (n : Nat) (BA : Nat → Option Addr) (L C : Nat → Nat) (B : Nat → Nat → Int) : Prop :=
  n = 0 ∨ ∃ b off, a = some ⟨b, off, none⟩ ∧ b < w.heap.size ∧ ∀ j, j < n → w.cell? ⟨b, off + j, none⟩ = some (.slice (BA j) (L j) (C j)) ∧ L j ≤ C j ∧ C j ≤ 9223372036854775807 ∧ FacsIn w (BA j) (L j) (B j)
theorem ListsIn.old {w w' : World} {a : Option Addr} {n : Nat} {BA : Nat → Option Addr} {L C : Nat → Nat} {B : Nat → Nat → Int} (h : ListsIn w a n BA L C B) (ho : Old w w') : ListsIn w' a n BA L C B := by
  rcases h with h | ⟨b, off, ha, hb, hr⟩
  · exact Or.inl h
  · exact Or.inr ⟨b, off, ha, Nat.lt_of_lt_of_le hb ho.size, fun j hj => ⟨ho.cellOf (hr j hj).1, (hr j hj).2.1, (hr j hj).2.2.1, (hr j hj).2.2.2.old ho⟩⟩
theorem ListsIn.facs {w : World} {a : Option Addr} {n : Nat} {BA : Nat → Option Addr} {L C : Nat → Nat} {B : Nat → Nat → Int} (h : ListsIn w a n BA L C B) {j : Nat} (hj : j < n) : FacsIn w (BA j) (L j) (B j) := by
  rcases h with h | ⟨_, _, _, _, hr⟩
  · omega
  · exact (hr j hj).2.2.2

abbrev cv (bt : Option Addr) (nt ct : Nat) (bb : Option Addr) (nb cb : Nat) : Value := .agg #[.slice bt nt ct, .slice bb nb cb]
abbrev cc (bt : Option Addr) (nt ct : Nat) (bb : Option Addr) (nb cb : Nat) : Array Value := #[.slice bt nt ct, .slice bb nb cb]

/-- A claim in memory: targets, and rows of bases. -/
structure ClaimIn (w : World) (bt : Option Addr) (nt ct : Nat) (T : Nat → Int) (bb : Option Addr) (nb cb : Nat) (BA : Nat → Option Addr) (L C : Nat → Nat) (B : Nat → Nat → Int) : Prop where
  tc : nt ≤ ct
  tm : ct ≤ 9223372036854775807
  bc : nb ≤ cb
  bm : cb ≤ 9223372036854775807
  tar : FacsIn w bt nt T
  bas : ListsIn w bb nb BA L C B
theorem ClaimIn.old {w w' : World} {bt : Option Addr} {nt ct : Nat} {T : Nat → Int} {bb : Option Addr} {nb cb : Nat} {BA : Nat → Option Addr} {L C : Nat → Nat} {B : Nat → Nat → Int} (h : ClaimIn w bt nt ct T bb nb cb BA L C B) (ho : Old w w') : ClaimIn w' bt nt ct T bb nb cb BA L C B :=
  ⟨h.tc, h.tm, h.bc, h.bm, h.tar.old ho, h.bas.old ho⟩

/-- The rows up to k are right ones, of n bases. -/
def rowsB (P Q : Int) (T : Nat → Int) (L : Nat → Nat) (B : Nat → Nat → Int) (n k : Nat) : Bool :=
  (List.range k).all fun j => inI P Q (T j) && (decide (L j = n) && (List.range n).all fun i => inI P Q (B j i))
theorem rowsB_iff {P Q : Int} {T : Nat → Int} {L : Nat → Nat} {B : Nat → Nat → Int} {n k : Nat} : rowsB P Q T L B n k = true ↔ ∀ j, j < k → inI P Q (T j) = true ∧ L j = n ∧ ∀ i, i < n → inI P Q (B j i) = true := by
  simp [rowsB]
/-- How many exponents a claim is about. -/
def sizeN (P Q : Int) (nt : Nat) (T : Nat → Int) (nb : Nat) (L : Nat → Nat) (B : Nat → Nat → Int) : Nat :=
  if 1 ≤ nt ∧ nt ≤ 64 ∧ nb = nt ∧ 1 ≤ L 0 ∧ L 0 ≤ 64 ∧ rowsB P Q T L B (L 0) nt = true then L 0 else 0
/-- It is a claim, of n. -/
structure IsClaim (P Q : Int) (nt : Nat) (T : Nat → Int) (nb : Nat) (L : Nat → Nat) (B : Nat → Nat → Int) (n : Nat) : Prop where
  t1 : 1 ≤ nt
  t64 : nt ≤ 64
  nb : nb = nt
  n1 : 1 ≤ n
  n64 : n ≤ 64
  len : ∀ j, j < nt → L j = n
  tin : ∀ j, j < nt → inI P Q (T j) = true
  bin : ∀ j, j < nt → ∀ i, i < n → inI P Q (B j i) = true
theorem IsClaim.size {P Q : Int} {nt : Nat} {T : Nat → Int} {nb : Nat} {L : Nat → Nat} {B : Nat → Nat → Int} {n : Nat} (h : IsClaim P Q nt T nb L B n) : sizeN P Q nt T nb L B = n := by
  have h0 := h.len 0 h.t1
  unfold sizeN
  rw [if_pos ⟨h.t1, h.t64, h.nb, by rw [h0]; exact h.n1, by rw [h0]; exact h.n64, by rw [h0]; exact rowsB_iff.2 fun j hj => ⟨h.tin j hj, h.len j hj, h.bin j hj⟩⟩, h0]
theorem sizeN_claim {P Q : Int} {nt : Nat} {T : Nat → Int} {nb : Nat} {L : Nat → Nat} {B : Nat → Nat → Int} (h : sizeN P Q nt T nb L B ≠ 0) : IsClaim P Q nt T nb L B (sizeN P Q nt T nb L B) := by
  unfold sizeN at h ⊢
  split
  · rename_i hc
    obtain ⟨h1, h2, h3, h4, h5, h6⟩ := hc
    have h7 := rowsB_iff.1 h6
    exact ⟨h1, h2, h3, h4, h5, fun j hj => (h7 j hj).2.1, fun j hj => (h7 j hj).1, fun j hj => (h7 j hj).2.2⟩
  · rename_i hc
    rw [if_neg hc] at h
    exact absurd rfl h
theorem sizeN_le (P Q : Int) (nt : Nat) (T : Nat → Int) (nb : Nat) (L : Nat → Nat) (B : Nat → Nat → Int) : sizeN P Q nt T nb L B ≤ 64 := by
  unfold sizeN
  split
  · rename_i hc; exact hc.2.2.2.2.1
  · omega
theorem sizeN_no {P Q : Int} {nt : Nat} {T : Nat → Int} {nb : Nat} {L : Nat → Nat} {B : Nat → Nat → Int} (h : ¬ (1 ≤ nt ∧ nt ≤ 64 ∧ nb = nt ∧ 1 ≤ L 0 ∧ L 0 ≤ 64 ∧ rowsB P Q T L B (L 0) nt = true)) : sizeN P Q nt T nb L B = 0 := by
  unfold sizeN
  rw [if_neg h]

/-- The same numbers? -/
def sameB (n : Nat) (X : Nat → Int) (m : Nat) (Y : Nat → Int) : Bool := decide (n = m) && (List.range n).all fun i => X i == Y i
theorem sameB_iff {n m : Nat} {X Y : Nat → Int} : sameB n X m Y = true ↔ n = m ∧ ∀ i, i < n → X i = Y i := by
  simp [sameB]

end Go.Proofs.Ytmmicbdjafolpae
