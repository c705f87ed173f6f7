/-
  Worlds behind a group and a pair (or three) that were laid out (layer 5).
-/
import Derived.Test.YtmmicbdjafolpaeGgrp
import Derived.Test.YtmmicbdjafolpaeVmath
import Derived.Laws.Tables
import Derived.Laws.Rows
import Derived.Deep.RegionHeld3
namespace Go.Proofs.Ytmmicbdjafolpae
open Go.RowKit

abbrev pv (u v : Int) : Value := .agg #[.int .u64 u, .int .u64 v]
abbrev tv (u m v : Int) : Value := .agg #[.int .u64 u, .int .u64 m, .int .u64 v]
/-- Numbers of the kind. -/
def U64 (x : Int) : Prop := 0 ≤ x ∧ x ≤ 18446744073709551615
theorem u64_mul (x y P : Int) : U64 (mulI x y P) := by have := mulI_bd x y P; unfold U64; omega
theorem u64_exp (P Q x e : Int) : U64 (expI P Q x e) := by
  unfold U64 expI
  split
  · omega
  · have := powI_bd x (e % Q) P
    omega
theorem u64_over (P x y : Int) : U64 (overI P x y) := u64_mul _ _ _
theorem u64_prod (P : Int) (F : Nat → Int) (k : Nat) : U64 (prodI P F k) := prodI_bd P F k

/-- Blocks that were there are as they were; behind them blocks of cells were laid out. -/
structure Lain (w : World) (l : List (Array Value × TypeId)) (W : World) : Prop where
  old : Old w W
  row : ∀ i (h : i < l.length), W.heap[w.heap.size + i]? = some (.cells (l[i]).1 (l[i]).2 (0, 0))
  size : w.heap.size + l.length ≤ W.heap.size
theorem Lain.nil (w : World) : Lain w [] w := ⟨Old.refl w, fun i h => by simp at h, by simp⟩
theorem Lain.add {w W : World} {l : List (Array Value × TypeId)} (h : Lain w l W) (he : W.heap.size = w.heap.size + l.length) (c : Array Value) (t : TypeId) : Lain w (l ++ [(c, t)]) (W.alloc (.cells c t)) := by
  refine ⟨h.old.alloc _, fun i hi => ?_, by simp [he]; omega⟩
  simp only [World.alloc]
  rw [Array.getElem?_push]
  by_cases hl : i < l.length
  · rw [if_neg (by omega), h.row i hl]
    simp [List.getElem_append_left hl]
  · have : i = l.length := by simp at hi; omega
    subst this
    rw [if_pos (by omega)]
    simp
theorem Lain.then {w W W' : World} {l : List (Array Value × TypeId)} (h : Lain w l W) (k : Old W W') : Lain w l W' :=
  ⟨h.old.trans k, fun i hi => (k.block _ (by have := h.size; omega)).trans (h.row i hi), Nat.le_trans h.size k.size⟩
theorem Lain.cell {w W : World} {l : List (Array Value × TypeId)} (h : Lain w l W) (i j : Nat) (hi : i < l.length) {v : Value} (hv : (l[i]).1[j]? = some v) : W.cell? ⟨w.heap.size + i, j, none⟩ = some v := by
  have := h.row i hi
  rw [cell_of_row _ _ j _ _ (0, 0) this]
  exact hv
theorem lain1 (w : World) (c : Array Value) (t : TypeId) : Lain w [(c, t)] (w.alloc (.cells c t)) := (Lain.nil w).add (by simp) c t
theorem lain2 (w : World) (c d : Array Value) (t s : TypeId) : Lain w [(c, t), (d, s)] ((w.alloc (.cells c t)).alloc (.cells d s)) := (lain1 w c t).add (by simp) d s
theorem lain3 (w : World) (c d e : Array Value) (t s r : TypeId) : Lain w [(c, t), (d, s), (e, r)] (((w.alloc (.cells c t)).alloc (.cells d s)).alloc (.cells e r)) := (lain2 w c d t s).add (by simp) e r
abbrev gc (P Q G H : Int) (a : Option Addr) (n cap : Nat) : Array Value := #[.int .u64 P, .int .u64 Q, .int .u64 G, .int .u64 H, .slice a n cap]
abbrev pc (u v : Int) : Array Value := #[.int .u64 u, .int .u64 v]
abbrev tc (u m v : Int) : Array Value := #[.int .u64 u, .int .u64 m, .int .u64 v]

theorem set_row {W : World} {b : Nat} {c : Array Value} {t : TypeId} (h : W.heap[b]? = some (.cells c t (0, 0))) (j : Nat) (v : Value) : (W.setCell ⟨b, j, none⟩ v).heap[b]? = some (.cells (c.setIfInBounds j v) t (0, 0)) := by
  simp [World.setCell, Array.getElem?_modify, h]
theorem row_frozen {W : World} {b : Nat} {c : Array Value} {t : TypeId} (h : W.heap[b]? = some (.cells c t (0, 0))) (j : Nat) : W.frozen? ⟨b, j, none⟩ = false := by
  simp [World.frozen?, h]
theorem cell_far {W : World} {b k i j : Nat} {x v : Value} (hne : k ≠ b) (h : W.cell? ⟨k, j, none⟩ = some v) : (W.setCell ⟨b, i, none⟩ x).cell? ⟨k, j, none⟩ = some v := by
  rw [World.cell?_setCell_other _ _ _ _ (fun e => hne (congrArg Addr.block e).symm)]
  exact h
theorem load_two {P : Program} {W : World} {b : Nat} {p q x y : Value} {t ty : TypeId} {fs : Array Field} (h : W.heap[b]? = some (.cells #[p, q] t (0, 0))) (hu : P.underlying ty = some (.struct fs)) (hi : (P.info? ty).map (·.size) = some 2) :
    (loadVar ty ⟨b, 0, none⟩).run P ((W.setCell ⟨b, 0, none⟩ x).setCell ⟨b, 1, none⟩ y) = .ok (.agg #[x, y]) ((W.setCell ⟨b, 0, none⟩ x).setCell ⟨b, 1, none⟩ y) :=
  run_loadVar_row _ b t ty #[x, y] (0, 0) _ (by have := set_row (set_row h 0 x) 1 y; simpa using this) hu rfl hi
theorem load_three {P : Program} {W : World} {b : Nat} {p q r x y z : Value} {t ty : TypeId} {fs : Array Field} (h : W.heap[b]? = some (.cells #[p, q, r] t (0, 0))) (hu : P.underlying ty = some (.struct fs)) (hi : (P.info? ty).map (·.size) = some 3) :
    (loadVar ty ⟨b, 0, none⟩).run P (((W.setCell ⟨b, 0, none⟩ x).setCell ⟨b, 1, none⟩ y).setCell ⟨b, 2, none⟩ z) = .ok (.agg #[x, y, z]) (((W.setCell ⟨b, 0, none⟩ x).setCell ⟨b, 1, none⟩ y).setCell ⟨b, 2, none⟩ z) :=
  run_loadVar_row _ b t ty #[x, y, z] (0, 0) _ (by have := set_row (set_row (set_row h 0 x) 1 y) 2 z; simpa using this) hu rfl hi
theorem result5 {P : Program} {fn : Func} {s : Tmp} {t : TypeId} {tmps : Array Value} {w : World} {b : Nat} {v : Value} (h : fn.results = #[.cell s t]) (hp : tmps[s]? = some (.pointer (some ⟨b, 0, none⟩))) (hl : (loadVar t ⟨b, 0, none⟩).run P w = .ok v w) : (results fn tmps).run P w = .ok v w := by
  simp [results, h, hp, asAddr, hl]
theorem info_pair : (Try.prog.info? 27).map (·.size) = some 2 := by kernel_rfl
/-- Two numbers, laid out as a list. -/
def two5 (x y : Int) : Nat → Int | 0 => x | _ => y
theorem facs_two (w : World) (x y : Int) (t : TypeId) (hx : U64 x) (hy : U64 y) : FacsIn (w.alloc (.cells #[.int .u64 x, .int .u64 y] t)) (some ⟨w.heap.size, 0, none⟩) 2 (two5 x y) := by
  refine Or.inr ⟨_, _, rfl, by simp, fun j hj => ?_⟩
  match j, hj with
  | 0, _ => exact ⟨(World.cell?_alloc_mark w _ t (0, 0) 0).trans rfl, hx.1, hx.2⟩
  | 1, _ => exact ⟨(World.cell?_alloc_mark w _ t (0, 0) 1).trans rfl, hy.1, hy.2⟩
theorem prod5 {P Q G : Int} (h : Righ P Q G) (x y : Int) : prodI P (two5 x y) 2 = mulI x y P := prod_two h.ok rfl rfl

end Go.Proofs.Ytmmicbdjafolpae
