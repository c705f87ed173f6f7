/-
  Numbers that are appended one by one, pairs that lie in a block, and what is sealed and opened (layer 5).
-/
import Derived.Test.YtmmicbdjafolpaeVawk
import Derived.Laws.AppendOwn
import Derived.Laws.OwnMore
import Derived.Maps.AppendAt
import Derived.WalkSpells
namespace Go.Proofs.Ytmmicbdjafolpae
open Go.RowKit

theorem u64info : (Try.prog.info? 22).map (fun i => (i.zero, i.size, i.bytes)) = some (some (.int .u64 0), 1, 8) := by kernel_rfl

/-- A list of its own with these numbers. -/
def Nums (w : World) (base : Nat) (v : Value) (k : Nat) (F : Nat → Int) : Prop := w.ownsRow base 22 1 v k ((List.range k).map fun i => Value.int .u64 (F i))
theorem nums_nil (w : World) (base : Nat) (F : Nat → Int) : Nums w base (.slice none 0 0) 0 F := World.ownsRow_nil _ _ _ _
theorem Nums.old {w w' : World} {base k : Nat} {v : Value} {F : Nat → Int} (h : Nums w base v k F) (ho : Old w w') : Nums w' base v k F := by
  refine ⟨h.1, ?_⟩
  rcases h.2 with hn | ⟨g, cap, cur, hv, hb, hg, rest⟩
  · exact Or.inl hn
  · exact Or.inr ⟨g, cap, cur, hv, hb, (ho.block g (Array.getElem?_eq_some_iff.1 hg).1).trans hg, rest⟩
theorem Nums.facs {w : World} {base k : Nat} {v : Value} {F : Nat → Int} (h : Nums w base v k F) (hF : ∀ i, i < k → U64 (F i)) : ∃ b c, v = .slice b k c ∧ k ≤ c ∧ FacsIn w b k F := by
  have h' := h
  rcases h.2 with ⟨rfl, rfl⟩ | ⟨g, cap, cur, rfl, hb, hg, hc, _⟩
  · exact ⟨none, 0, rfl, Nat.le_refl _, Or.inl rfl⟩
  · refine ⟨some ⟨g, 0, none⟩, cap, rfl, hc, Or.inr ⟨g, 0, rfl, (Array.getElem?_eq_some_iff.1 hg).1, fun j hj => ⟨?_, hF j hj⟩⟩⟩
    rw [Nat.zero_add, World.ownsRow.cellAt h' j (by omega)]
    simp [List.getElem?_map, List.getElem?_range hj]
theorem Nums.app {w : World} {base k : Nat} {v : Value} {F : Nat → Int} {x : Int} (h : w.ownsRow base 22 1 v (k + 1) ((List.range k).map (fun i => Value.int .u64 (F i)) ++ [.int .u64 x])) (hx : F k = x) : Nums w base v (k + 1) F := by
  unfold Nums
  rw [List.range_succ, List.map_append]
  simpa [hx] using h
theorem Old.grown {a w w' : World} {row : Option Nat} (h : Old a w) (hg : w.grownBy w' row) (hr : ∀ k, row = some k → a.heap.size ≤ k) : Old a w' :=
  ⟨hg.os.trans h.os, hg.output.trans h.output, Nat.le_trans h.size hg.size, fun k hk => (hg.block k (Nat.lt_of_lt_of_le hk h.size) (fun e => by have := hr k e.symm; omega)).trans (h.block k hk)⟩
theorem Nums.grown {a w w' : World} {k : Nat} {v : Value} {F : Nat → Int} {o : Obj} (h : Nums w a.heap.size v k F) (ho : Old a w) (hg : (w.alloc o).grownBy w' v.ownBlock) : Old a w' :=
  (ho.alloc o).grown hg fun k hk => (World.ownsRow.lt h k hk).1

/-- What stands behind the first. -/
theorem facs_tail {w : World} {b off l : Nat} {D : Nat → Int} (h : FacsIn w (some ⟨b, off, none⟩) l D) : FacsIn w (some ⟨b, off + 1, none⟩) (l - 1) (fun i => D (i + 1)) := by
  rcases h with h | ⟨_, _, hq, hb, hr⟩
  · exact Or.inl (by omega)
  · cases hq
    exact Or.inr ⟨b, off + 1, rfl, hb, fun j hj => by have := hr (j + 1) (by omega); rwa [← Nat.add_assoc, Nat.add_right_comm] at this⟩
theorem FacsIn.u64 {w : World} {b : Option Addr} {l : Nat} {D : Nat → Int} (h : FacsIn w b l D) : ∀ i, i < l → U64 (D i) := fun i hi => by
  rcases h with h0 | ⟨_, _, _, _, h⟩
  · omega
  · exact (h i hi).2

/-- A pair in its block behind what was laid out. -/
structure Pd (w : World) (l : List (Array Value × TypeId)) (b : Nat) (u v : Int) (W : World) : Prop where
  lain : Lain w l W
  far : w.heap.size + l.length ≤ b
  row : W.heap[b]? = some (.cells #[.int .u64 u, .int .u64 v] 27 (0, 0))
theorem Pd.then {w W W' : World} {l : List (Array Value × TypeId)} {b : Nat} {u v : Int} (h : Pd w l b u v W) (ho : Old W W') : Pd w l b u v W' :=
  ⟨h.lain.then ho, h.far, (ho.block _ (Array.getElem?_eq_some_iff.1 h.row).1).trans h.row⟩
theorem Pd.c0 {w W : World} {l : List (Array Value × TypeId)} {b : Nat} {u v : Int} (h : Pd w l b u v W) : W.cell? ⟨b, 0, none⟩ = some (.int .u64 u) := cell_of_row _ _ 0 _ _ (0, 0) h.row
theorem Pd.c1 {w W : World} {l : List (Array Value × TypeId)} {b : Nat} {u v : Int} (h : Pd w l b u v W) : W.cell? ⟨b, 1, none⟩ = some (.int .u64 v) := cell_of_row _ _ 1 _ _ (0, 0) h.row
theorem Pd.set {w W : World} {l : List (Array Value × TypeId)} {b : Nat} {p q : Int} (h : Pd w l b p q W) (u v : Int) : Pd w l b u v ((W.setCell ⟨b, 0, none⟩ (.int .u64 u)).setCell ⟨b, 1, none⟩ (.int .u64 v)) :=
  ⟨(h.lain.far h.far 0 _).far h.far 1 _, h.far, by have := set_row (set_row h.row 0 (.int .u64 u)) 1 (.int .u64 v); simpa using this⟩
theorem Pd.last {w W : World} {l : List (Array Value × TypeId)} (h : Lain w l W) (u v : Int) : Pd w l W.heap.size u v (W.alloc (.cells #[.int .u64 u, .int .u64 v] 27)) :=
  ⟨h.then ((Old.refl _).alloc _), h.size, heap_alloc_last W _⟩
theorem Pd.early {w x W : World} {l : List (Array Value × TypeId)} {u v : Int} (h : Lain w l x) (ho : Old (x.alloc (.cells #[.int .u64 u, .int .u64 v] 27)) W) : Pd w l x.heap.size u v W := (Pd.last h u v).then ho

/-- Sealed for the key y: m, by some draw. -/
structure Sld (P Q G m y u v : Int) : Prop where
  u0 : U64 u
  v0 : U64 v
  ui : inI P Q u = true
  by_ : ∃ R : Nat, u % P = G ^ R % P ∧ v % P = m * y ^ R % P
theorem Righ.sld {P Q G m y r : Int} (h : Righ P Q G) (hy : inI P Q y = true) (hr : 0 ≤ r) : Sld P Q G m y (mulI 1 (expI P Q G r) P) (mulI m (expI P Q y r) P) := by
  refine ⟨u64_mul _ _ _, u64_mul _ _ _, h.mul_in h.one_in (h.exp_in h.gin), r.toNat, ?_, ?_⟩
  · rw [mul_cong h.ok rfl (h.exp_cong h.gin hr), Int.one_mul]
  · rw [mul_cong h.ok rfl (h.exp_cong hy hr)]
theorem Sld.again {P Q G m y u v r : Int} (s : Sld P Q G m y u v) (h : Righ P Q G) (hy : inI P Q y = true) (hr : 0 ≤ r) : Sld P Q G m y (mulI u (expI P Q G r) P) (mulI v (expI P Q y r) P) := by
  obtain ⟨R, hu, hv⟩ := s.by_
  refine ⟨u64_mul _ _ _, u64_mul _ _ _, h.mul_in s.ui (h.exp_in h.gin), R + r.toNat, ?_, ?_⟩
  · rw [mul_cong h.ok hu (h.exp_cong h.gin hr), Int.pow_add]
  · rw [mul_cong h.ok hv (h.exp_cong hy hr), Int.pow_add, Int.mul_assoc]
theorem Sld.opens {P Q G m y u v : Int} {X : Nat → Int} {k : Nat} (s : Sld P Q G m y u v) (h : Righ P Q G) (hm : inI P Q m = true) (hX : ∀ i, i < k → 0 ≤ X i) (hy : y = prodI P (fun i => expI P Q G (X i)) k) : overI P v (prodI P (fun i => expI P Q u (X i)) k) = m := by
  obtain ⟨R, hu, hv⟩ := s.by_
  exact h.opens hm hu hv (hy ▸ h.keys_cong h.gin X k hX) (h.keys_cong s.ui X k hX) (h.prod_in k fun i _ => h.exp_in s.ui)

end Go.Proofs.Ytmmicbdjafolpae
