/-
  What stands in the slots of ProofTrue's literal (layer 7).
-/
import Derived.Test.YtokhpppealdfmafPl4m
import Derived.Test.YtokhpppealdfmafPl3
namespace Go.Proofs.Ytokhpppealdfmaf
open Go.RowKit

/-- A claim in a value. -/
def CF (w : World) (v : Value) (nt : Nat) (T : Nat → Int) (L : Nat → Nat) (B : Nat → Nat → Int) : Prop := ∃ bt ct bb cb BA C, v = cv bt nt ct bb nt cb ∧ ClaimIn w bt nt ct T bb nt cb BA L C B
theorem CF.old {w w' : World} {v : Value} {nt : Nat} {T : Nat → Int} {L : Nat → Nat} {B : Nat → Nat → Int} (h : CF w v nt T L B) (ho : Old w w') : CF w' v nt T L B := by
  obtain ⟨bt, ct, bb, cb, BA, C, e, hc⟩ := h
  exact ⟨bt, ct, bb, cb, BA, C, e, hc.old ho⟩
/-- A claim that holds, and what it holds for. -/
def El (P Q : Int) (w : World) (v1 v2 v3 : Value) : Prop := ∃ nt T L B nw X bt ct bb cb BA C bw cw, v1 = .slice bt nt ct ∧ v2 = .slice bb nt cb ∧ v3 = .slice bw nw cw ∧ nw ≤ cw ∧ GoodE P Q nt T L B nw X ∧ ClaimIn w bt nt ct T bb nt cb BA L C B ∧ FacsIn w bw nw X
theorem El.old {P Q : Int} {w w' : World} {v1 v2 v3 : Value} (h : El P Q w v1 v2 v3) (ho : Old w w') : El P Q w' v1 v2 v3 := by
  obtain ⟨nt, T, L, B, nw, X, bt, ct, bb, cb, BA, C, bw, cw, e1, e2, e3, hw, hg, hc, hf⟩ := h
  exact ⟨nt, T, L, B, nw, X, bt, ct, bb, cb, BA, C, bw, cw, e1, e2, e3, hw, hg, hc.old ho, hf.old ho⟩
/-- Four of them, one behind the other. -/
def Els (P Q : Int) (w : World) (b : Nat) : Prop := ∀ j, j < 4 → ∃ bt nt ct bb cb bw nw cw, w.cell? ⟨b, j * 3, none⟩ = some (.slice bt nt ct) ∧ w.cell? ⟨b, j * 3 + 1, none⟩ = some (.slice bb nt cb) ∧ w.cell? ⟨b, j * 3 + 2, none⟩ = some (.slice bw nw cw) ∧ El P Q w (.slice bt nt ct) (.slice bb nt cb) (.slice bw nw cw)
theorem Els.old {P Q : Int} {w w' : World} {b : Nat} (h : Els P Q w b) (ho : Old w w') : Els P Q w' b := fun j hj => by
  obtain ⟨bt, nt, ct, bb, cb, bw, nw, cw, c0, c1, c2, he⟩ := h j hj
  exact ⟨bt, nt, ct, bb, cb, bw, nw, cw, ho.cellOf c0, ho.cellOf c1, ho.cellOf c2, he.old ho⟩
theorem lt4 {p : Nat → Prop} (h0 : p 0) (h1 : p 1) (h2 : p 2) (h3 : p 3) : ∀ j, j < 4 → p j
  | 0, _ => h0
  | 1, _ => h1
  | 2, _ => h2
  | 3, _ => h3
theorem facs_two7 (w : World) (x y : Int) (t : TypeId) (hx : U64 x) (hy : U64 y) : FacsIn (w.alloc (.cells #[.int .u64 x, .int .u64 y] t)) (some ⟨w.heap.size, 0, none⟩) 2 (two7 x y) := by
  have e : two5 x y = two7 x y := by funext j; cases j <;> rfl
  rw [← e]
  exact facs_two w x y t hx hy
/-- Three numbers in the midst of a block. -/
theorem facs_mid {w : World} {b o : Nat} {x y z : Int} (h0 : w.cell? ⟨b, o, none⟩ = some (.int .u64 x)) (h1 : w.cell? ⟨b, o + 1, none⟩ = some (.int .u64 y)) (h2 : w.cell? ⟨b, o + 2, none⟩ = some (.int .u64 z)) (hx : U64 x) (hy : U64 y) (hz : U64 z) : FacsIn w (some ⟨b, o, none⟩) 3 (tri7 x y z) :=
  Or.inr ⟨b, o, rfl, World.block_lt_of_cell? _ _ h0, lt3 (p := fun j => w.cell? ⟨b, o + j, none⟩ = some (.int .u64 (tri7 x y z j)) ∧ U64 (tri7 x y z j)) ⟨h0, hx⟩ ⟨h1, hy⟩ ⟨h2, hz⟩⟩

def trF (s bx : Nat) (P Q G H : Int) (a : Option Addr) (n cap : Nat) (key tok x r1 u0 v0 u1 v1 u2 v2 ww vv sh oA oB oC : Int) : Nat → Value → World → Prop
  | 0, v, _ => v = gv P Q G H a n cap
  | 1, v, _ => v = .int .u64 key
  | 2, v, w => CF w v 1 (fun _ => key) (fun _ => 1) (fun _ _ => G)
  | 3, v, _ => v = .pointer (some ⟨s + 1 + 1, 1, none⟩)
  | 4, v, _ => v = .int .u64 x
  | 5, v, w => ∃ b, v = .slice (some ⟨b, 0, none⟩) 1 1 ∧ FacsIn w (some ⟨b, 0, none⟩) 1 (fun _ => x)
  | 6, v, w => ∃ bt nt ct bb cb bw nw cw, v = .agg #[.slice bt nt ct, .slice bb nt cb, .slice bw nw cw] ∧ El P Q w (.slice bt nt ct) (.slice bb nt cb) (.slice bw nw cw)
  | 7, v, _ => v = gv P Q G H a n cap
  | 8, v, _ => v = .agg #[.int .u64 u0, .int .u64 v0, .int .u64 u1, .int .u64 v1, .int .u64 u2, .int .u64 v2]
  | 9, v, w => CF w v 3 (tri7 u0 u1 u2) (fun _ => 3) (fun j => rowAt G j)
  | 10, v, _ => v = .pointer (some ⟨s + 1 + 1, 3, none⟩)
  | 11, v, _ => v = .slice (some ⟨s + 1 + 1, 3, none⟩) 3 3
  | 12, v, w => ∃ bt nt ct bb cb bw nw cw, v = .agg #[.slice bt nt ct, .slice bb nt cb, .slice bw nw cw] ∧ El P Q w (.slice bt nt ct) (.slice bb nt cb) (.slice bw nw cw)
  | 13, v, _ => v = gv P Q G H a n cap
  | 14, v, _ => v = .int .u64 key
  | 15, v, _ => v = .pointer (some ⟨bx, 4, none⟩)
  | 16, v, _ => v = pv u2 v2
  | 17, v, _ => v = gv P Q G H a n cap
  | 18, v, _ => v = .pointer (some ⟨s + 1 + 1, 1, none⟩)
  | 19, v, _ => v = .int .u64 x
  | 20, v, _ => v = .pointer (some ⟨bx, 4, none⟩)
  | 21, v, _ => v = pv u2 v2
  | 22, v, _ => v = .int .u64 sh
  | 23, v, w => CF w v 2 (two7 key sh) (fun _ => 1) (two7r (fun _ => G) (fun _ => u2))
  | 24, v, _ => v = .pointer (some ⟨s + 1 + 1, 1, none⟩)
  | 25, v, _ => v = .int .u64 x
  | 26, v, w => ∃ b, v = .slice (some ⟨b, 0, none⟩) 1 1 ∧ FacsIn w (some ⟨b, 0, none⟩) 1 (fun _ => x)
  | 27, v, w => ∃ bt nt ct bb cb bw nw cw, v = .agg #[.slice bt nt ct, .slice bb nt cb, .slice bw nw cw] ∧ El P Q w (.slice bt nt ct) (.slice bb nt cb) (.slice bw nw cw)
  | 28, v, _ => v = gv P Q G H a n cap
  | 29, v, _ => v = .int .u64 key
  | 30, v, _ => v = .int .u64 tok
  | 31, v, _ => v = tv u0 1 v0
  | 32, v, _ => v = tv u0 ww vv
  | 33, v, w => CF w v 3 (tri7 key oA oB) (fun _ => 2) (tri7r (two7 G 1) (two7 1 G) (two7 oC tok))
  | 34, v, _ => v = .pointer (some ⟨s + 1 + 1, 1, none⟩)
  | 35, v, _ => v = .int .u64 x
  | 36, v, _ => v = .pointer (some ⟨s + 1 + 1, 3, none⟩)
  | 37, v, _ => v = .pointer (some ⟨s + 1 + 1, 4, none⟩)
  | 38, v, _ => v = .int .u64 r1
  | 39, v, w => ∃ b, v = .slice (some ⟨b, 0, none⟩) 2 2 ∧ FacsIn w (some ⟨b, 0, none⟩) 2 (two7 x r1)
  | 40, v, w => ∃ bt nt ct bb cb bw nw cw, v = .agg #[.slice bt nt ct, .slice bb nt cb, .slice bw nw cw] ∧ El P Q w (.slice bt nt ct) (.slice bb nt cb) (.slice bw nw cw)
  | 41, v, w => ∃ b, v = .slice (some ⟨b, 0, none⟩) 4 4 ∧ Els P Q w b
  | 42, v, _ => v = .int .i64 4
  | 43, v, _ => v = .int .i64 0
  | _, _, _ => True
theorem trF_old {s bx : Nat} {P Q G H : Int} {a : Option Addr} {n cap : Nat} {key tok x r1 u0 v0 u1 v1 u2 v2 ww vv sh oA oB oC : Int} {w w' : World} (k : Nat) (v : Value) (h : trF s bx P Q G H a n cap key tok x r1 u0 v0 u1 v1 u2 v2 ww vv sh oA oB oC k v w) (ho : Old w w') : trF s bx P Q G H a n cap key tok x r1 u0 v0 u1 v1 u2 v2 ww vv sh oA oB oC k v w' := by
  match k, h with
  | 0, h => exact h
  | 1, h => exact h
  | 2, h => exact CF.old h ho
  | 3, h => exact h
  | 4, h => exact h
  | 5, ⟨b, e, h⟩ => exact ⟨b, e, h.old ho⟩
  | 6, ⟨bt, nt, ct, bb, cb, bw, nw, cw, e, h⟩ => exact ⟨bt, nt, ct, bb, cb, bw, nw, cw, e, h.old ho⟩
  | 7, h => exact h
  | 8, h => exact h
  | 9, h => exact CF.old h ho
  | 10, h => exact h
  | 11, h => exact h
  | 12, ⟨bt, nt, ct, bb, cb, bw, nw, cw, e, h⟩ => exact ⟨bt, nt, ct, bb, cb, bw, nw, cw, e, h.old ho⟩
  | 13, h => exact h
  | 14, h => exact h
  | 15, h => exact h
  | 16, h => exact h
  | 17, h => exact h
  | 18, h => exact h
  | 19, h => exact h
  | 20, h => exact h
  | 21, h => exact h
  | 22, h => exact h
  | 23, h => exact CF.old h ho
  | 24, h => exact h
  | 25, h => exact h
  | 26, ⟨b, e, h⟩ => exact ⟨b, e, h.old ho⟩
  | 27, ⟨bt, nt, ct, bb, cb, bw, nw, cw, e, h⟩ => exact ⟨bt, nt, ct, bb, cb, bw, nw, cw, e, h.old ho⟩
  | 28, h => exact h
  | 29, h => exact h
  | 30, h => exact h
  | 31, h => exact h
  | 32, h => exact h
  | 33, h => exact CF.old h ho
  | 34, h => exact h
  | 35, h => exact h
  | 36, h => exact h
  | 37, h => exact h
  | 38, h => exact h
  | 39, ⟨b, e, h⟩ => exact ⟨b, e, h.old ho⟩
  | 40, ⟨bt, nt, ct, bb, cb, bw, nw, cw, e, h⟩ => exact ⟨bt, nt, ct, bb, cb, bw, nw, cw, e, h.old ho⟩
  | 41, ⟨b, e, h⟩ => exact ⟨b, e, h.old ho⟩
  | 42, h => exact h
  | 43, h => exact h
  | _ + 44, _ => exact trivial

end Go.Proofs.Ytokhpppealdfmaf
