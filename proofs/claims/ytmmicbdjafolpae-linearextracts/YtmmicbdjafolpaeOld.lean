/-
  What was there is there still: the relation between a world and a later one that the contracts of layer 3 tell.
-/
import Derived.WalkKit
import Derived.Below
import Derived.Carry
import Derived.WalkSmall
import Derived.Deep.OwnRows
import Derived.Deep.Upon
namespace Go.Proofs.Ytmmicbdjafolpae
open Go.RowKit

/-- All blocks that were there are as they were. -/
structure Old (w w' : World) : Prop where
  os : w'.os = w.os
  output : w'.output = w.output
  size : w.heap.size ≤ w'.heap.size
  block : ∀ k, k < w.heap.size → w'.heap[k]? = w.heap[k]?

theorem Old.refl (w : World) : Old w w := ⟨rfl, rfl, Nat.le_refl _, fun _ _ => rfl⟩
theorem Old.trans {a b c : World} (h : Old a b) (k : Old b c) : Old a c :=
  ⟨k.os.trans h.os, k.output.trans h.output, Nat.le_trans h.size k.size, fun i hi => (k.block i (Nat.lt_of_lt_of_le hi h.size)).trans (h.block i hi)⟩
theorem Old.ofBelow {w w' : World} (h : Below w.heap.size w w') : Old w w' := ⟨h.os, h.output, h.size, h.block⟩
theorem Old.alloc {a w : World} (h : Old a w) (o : Obj) : Old a (w.alloc o) :=
  h.trans ⟨rfl, rfl, by simp, fun k hk => Below.heap_alloc _ _ _ hk⟩
theorem Old.drew {a w : World} (h : Old a w) : Old a w.drew := ⟨h.os, h.output, h.size, h.block⟩
theorem Old.drewN {a w : World} (h : Old a w) (n : Nat) : Old a (w.drewN n) := h.trans ⟨rfl, rfl, Nat.le_refl _, fun _ _ => rfl⟩
theorem Old.draws {a w w' : World} (h : Old a w) (hd : ∃ n, w' = w.drewN n) : Old a w' := by
  obtain ⟨n, rfl⟩ := hd
  exact h.drewN n
theorem Old.setCell {a w : World} (h : Old a w) {p : Addr} (hp : a.heap.size ≤ p.block) (u : Value) : Old a (w.setCell p u) :=
  ⟨h.os, h.output, by simpa [World.setCell] using h.size, fun k hk => (Below.heap_setCell _ _ _ _ (by omega)).trans (h.block k hk)⟩
theorem Old.cell {w w' : World} (h : Old w w') {p : Addr} (hp : p.block < w.heap.size) : w'.cell? p = w.cell? p := World.cell?_of_block (w := w) (h.block p.block hp)
theorem Old.cellOf {w w' : World} (h : Old w w') {p : Addr} {v : Value} (hc : w.cell? p = some v) : w'.cell? p = some v := (h.cell (World.block_lt_of_cell? _ _ hc)).trans hc
theorem Old.row {w w' : World} (h : Old w w') {b : Nat} {t : TypeId} {n : Nat} {f : Nat → Value} (hr : w.rowIs b t n f) : w'.rowIs b t n f := hr.of_block (h.block b hr.lt)
theorem Old.frame {W w' : World} (h : Old W w') (may : MemPlace → Prop) : W.keptBut w' may := by
  refine ⟨h.os, h.output, fun i hi => ?_⟩
  rw [h.block i hi]
  split <;> simp_all
theorem Old.same {W w' : World} (h : Old W w') {p : MemPlace} (hp : p.block < W.heap.size) : W.sameAt w' p := by
  cases p with
  | cell b o => exact World.cell?_of_block (w := W) (h.block b hp)
  | map b => exact h.block b hp
theorem Old.trod {H : Type} {enc : TypeId × Value → H} {P : Program} {t : TypeId} (hl : laidOutB P = true) (hr : P.readableRec t = true) (hrow : t < P.types.size) {W W' : World} {v : Value} {d : DataW H} {ps : List MemPlace}
    (h : DataW.Trod enc P W 0 (fun _ => true) true t v d ps) (hb : Old W W') (hlt : ∀ x ∈ ps, x.block < W.heap.size) :
    DataW.Trod enc P W' 0 (fun b => decide (b < W.heap.size)) true t v d ps :=
  WideElems.Trod_stays hl hr hrow h (fun x hx => hb.same (hlt x hx)) (fun x hx => by simpa using hlt x hx)

/-- Behind appends to a row that lies above. -/
theorem Old.upon {w W wx : World} {e : TypeId} {size : Nat} {ao : Option Addr} {b off len cap : Nat} {olds : List Value} {v : Value} {m : Nat} {ks : List Value} {r : Nat} (h : Old w W) (hb : w.heap.size ≤ b) (hu : Upon W e size ao b off len cap olds wx v m ks r) : Old w wx := by
  refine ⟨hu.kept.1.trans h.os, hu.kept.2.1.trans h.output, Nat.le_trans h.size hu.kept.size, fun k hk => ?_⟩
  refine (hu.kept.block (Nat.lt_of_lt_of_le hk h.size) fun p hp => ?_).trans (h.block k hk)
  rintro rfl
  obtain ⟨j, _, rfl⟩ := hp
  simp [MemPlace.block] at hk
  omega
/-- A row that is not the one appended to. -/
theorem row_upon {W wx : World} {e : TypeId} {size : Nat} {ao : Option Addr} {b off len cap : Nat} {olds : List Value} {v : Value} {m : Nat} {ks : List Value} {r : Nat} (hu : Upon W e size ao b off len cap olds wx v m ks r) {b' : Nat} {t : TypeId} {n : Nat} {f : Nat → Value} (hr : W.rowIs b' t n f) (hne : b' ≠ b) : wx.rowIs b' t n f := by
  refine hr.of_block (hu.kept.block hr.lt fun p hp => ?_)
  rintro rfl
  obtain ⟨j, _, rfl⟩ := hp
  exact hne rfl

end Go.Proofs.Ytmmicbdjafolpae
