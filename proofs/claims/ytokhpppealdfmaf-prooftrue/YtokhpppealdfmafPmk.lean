/-
  Claims that are made anew (layer 7).
-/
import Derived.Test.YtokhpppealdfmafK18
import Derived.Test.YtokhpppealdfmafK07
import Derived.Test.YtokhpppealdfmafWays
namespace Go.Proofs.Ytokhpppealdfmaf
open Go.RowKit

/-- A list of its own, of lists of its own. -/
def Rws (w : World) (base : Nat) (v : Value) (nb : Nat) (L : Nat → Nat) (B : Nat → Nat → Int) : Prop :=
  ∃ (BA : Nat → Option Addr) (C : Nat → Nat), w.ownsRow base 27 1 v nb ((List.range nb).map fun j => Value.slice (BA j) (L j) (C j)) ∧ ∀ j, j < nb → Nums w base (.slice (BA j) (L j) (C j)) (L j) (B j)
theorem Rws.old {w w' : World} {base nb : Nat} {v : Value} {L : Nat → Nat} {B : Nat → Nat → Int} (h : Rws w base v nb L B) (ho : Old w w') : Rws w' base v nb L B := by
  obtain ⟨BA, C, h1, h2⟩ := h
  exact ⟨BA, C, own_old h1 ho, fun j hj => (h2 j hj).old ho⟩
theorem Rws.mono {w : World} {base base' nb : Nat} {v : Value} {L : Nat → Nat} {B : Nat → Nat → Int} (h : Rws w base v nb L B) (hb : base' ≤ base) : Rws w base' v nb L B := by
  obtain ⟨BA, C, h1, h2⟩ := h
  exact ⟨BA, C, h1.mono hb, fun j hj => (h2 j hj).mono hb⟩
theorem Rws.below {w : World} {base nb : Nat} {v : Value} {L : Nat → Nat} {B : Nat → Nat → Int} (h : Rws w base v nb L B) {p : Addr} (hp : p.block < base) (u : Value) : Rws (w.setCell p u) base v nb L B := by
  obtain ⟨BA, C, h1, h2⟩ := h
  exact ⟨BA, C, ownsRow_setCell_below h1 hp u, fun j hj => ownsRow_setCell_below (h2 j hj) hp u⟩
theorem Rws.lists {w : World} {base nb : Nat} {v : Value} {L : Nat → Nat} {B : Nat → Nat → Int} (h : Rws w base v nb L B) (hB : ∀ j, j < nb → ∀ i, i < L j → U64 (B j i)) :
    ∃ (b : Option Addr) (c : Nat) (BA : Nat → Option Addr) (C : Nat → Nat), v = .slice b nb c ∧ nb ≤ c ∧ c ≤ 9223372036854775807 ∧ ListsIn w b nb BA L C B := by
  obtain ⟨BA, C, h1, h2⟩ := h
  have h1' := h1
  rcases h1.2 with ⟨rfl, rfl⟩ | ⟨g, cap, cur, rfl, hb, hg, hc, hm, _⟩
  · exact ⟨none, 0, BA, C, rfl, Nat.le_refl _, by omega, Or.inl rfl⟩
  · refine ⟨some ⟨g, 0, none⟩, cap, BA, C, rfl, hc, by unfold maxLen at hm; omega, Or.inr ⟨g, 0, rfl, (Array.getElem?_eq_some_iff.1 hg).1, fun j hj => ?_⟩⟩
    obtain ⟨_, _, e, q1, q2, hf⟩ := (h2 j hj).facs2 (hB j hj)
    cases e
    refine ⟨?_, q1, q2, hf⟩
    rw [Nat.zero_add, World.ownsRow.cellAt h1' j (by omega)]
    simp [List.getElem?_map, List.getElem?_range hj]

theorem nums_new (w : World) (base n : Nat) (cs : List Value) (F : Nat → Int) (hb : base ≤ w.heap.size) (hn : n ≤ 1000) (h : cs = (List.range n).map fun i => Value.int .u64 (F i)) : Nums (w.alloc (.cells cs.toArray 22)) base (.slice (some ⟨w.heap.size, 0, none⟩) n n) n F := by
  have := World.ownsRow_lit (base := base) (e := 22) (size := 1) w cs.toArray n hb (by unfold maxLen; omega) (by subst h; simp)
  unfold Nums
  rw [← h]
  simpa using this
theorem rws_new (w : World) (base n : Nat) (cs : List Value) (BA : Nat → Option Addr) (L C : Nat → Nat) (B : Nat → Nat → Int) (hb : base ≤ w.heap.size) (hn : n ≤ 1000) (h : cs = (List.range n).map fun j => Value.slice (BA j) (L j) (C j)) (hN : ∀ j, j < n → Nums w base (.slice (BA j) (L j) (C j)) (L j) (B j)) : Rws (w.alloc (.cells cs.toArray 27)) base (.slice (some ⟨w.heap.size, 0, none⟩) n n) n L B := by
  have := World.ownsRow_lit (base := base) (e := 27) (size := 1) w cs.toArray n hb (by unfold maxLen; omega) (by subst h; simp)
  refine ⟨BA, C, ?_, fun j hj => (hN j hj).old ((Old.refl _).alloc _)⟩
  rw [← h]
  simpa using this

/-- A claim made anew. -/
def GivesC (w : World) (nt : Nat) (T : Nat → Int) (nb : Nat) (L : Nat → Nat) (B : Nat → Nat → Int) (r : Ending) (w' : World) : Prop :=
  Old w w' ∧ ∃ v u, r = .returned (.agg #[v, u]) ∧ Nums w' w.heap.size v nt T ∧ Rws w' w.heap.size u nb L B
/-- A claim in memory, made behind w. -/
def MadeIn (w : World) (nt : Nat) (T : Nat → Int) (nb : Nat) (L : Nat → Nat) (B : Nat → Nat → Int) (r : Ending) (w' : World) : Prop :=
  ∃ bt ct bb cb BA C, r = .returned (cv bt nt ct bb nb cb) ∧ Old w w' ∧ ClaimIn w' bt nt ct T bb nb cb BA L C B
theorem GivesC.made {w w' : World} {nt : Nat} {T : Nat → Int} {nb : Nat} {L : Nat → Nat} {B : Nat → Nat → Int} {r : Ending} (h : GivesC w nt T nb L B r w') (hT : ∀ j, j < nt → U64 (T j)) (hB : ∀ j, j < nb → ∀ i, i < L j → U64 (B j i)) : MadeIn w nt T nb L B r w' := by
  obtain ⟨ho, v, u, rfl, h1, h2⟩ := h
  obtain ⟨bt, ct, rfl, q1, q2, hf⟩ := h1.facs2 hT
  obtain ⟨bb, cb, BA, C, rfl, q3, q4, hl⟩ := h2.lists hB
  exact ⟨bt, ct, bb, cb, BA, C, rfl, ho, q1, q2, q3, q4, hf, hl⟩

/-- The claim's cells were set behind all that was made. -/
theorem givesC_set {w W w' : World} {b : Nat} {nt : Nat} {T : Nat → Int} {nb : Nat} {L : Nat → Nat} {B : Nat → Nat → Int} {v u : Value} (hb : w.heap.size ≤ b) (hbW : b < W.heap.size) (h0 : Old w w') (hs : w.heap.size ≤ W.heap.size) (h1 : Nums w' W.heap.size v nt T) (h2 : Rws w' W.heap.size u nb L B) :
    GivesC w nt T nb L B (.returned (.agg #[v, u])) ((w'.setCell ⟨b, 0, none⟩ v).setCell ⟨b, 1, none⟩ u) :=
  ⟨(h0.setCell (p := ⟨b, 0, none⟩) hb _).setCell (p := ⟨b, 1, none⟩) hb _, v, u, rfl, (ownsRow_setCell_below (ownsRow_setCell_below h1 (a := ⟨b, 0, none⟩) hbW _) (a := ⟨b, 1, none⟩) hbW _).mono hs, ((h2.below (p := ⟨b, 0, none⟩) hbW _).below (p := ⟨b, 1, none⟩) hbW _).mono hs⟩

/-- Functions of few values. -/
def two7 (x y : Int) : Nat → Int | 0 => x | _ => y
def tri7 (x y z : Int) : Nat → Int | 0 => x | 1 => y | _ => z
def two7a (x y : Option Addr) : Nat → Option Addr | 0 => x | _ => y
def tri7a (x y z : Option Addr) : Nat → Option Addr | 0 => x | 1 => y | _ => z
def two7r (x y : Nat → Int) : Nat → Nat → Int | 0 => x | _ => y
def tri7r (x y z : Nat → Int) : Nat → Nat → Int | 0 => x | 1 => y | _ => z
theorem u64_two {x y : Int} (hx : U64 x) (hy : U64 y) : ∀ j, U64 (two7 x y j)
  | 0 => hx
  | _ + 1 => hy
theorem u64_tri {x y z : Int} (hx : U64 x) (hy : U64 y) (hz : U64 z) : ∀ j, U64 (tri7 x y z j)
  | 0 => hx
  | 1 => hy
  | _ + 2 => hz
theorem lt3 {p : Nat → Prop} (h0 : p 0) (h1 : p 1) (h2 : p 2) : ∀ j, j < 3 → p j
  | 0, _ => h0
  | 1, _ => h1
  | 2, _ => h2
theorem lt2 {p : Nat → Prop} (h0 : p 0) (h1 : p 1) : ∀ j, j < 2 → p j
  | 0, _ => h0
  | 1, _ => h1

end Go.Proofs.Ytokhpppealdfmaf
