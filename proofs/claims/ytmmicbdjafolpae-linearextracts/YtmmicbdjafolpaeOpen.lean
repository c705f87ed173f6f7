/-
  A list of rows that came in, opened: what its reading says of memory.
-/
import Derived.Test.YtmmicbdjafolpaeLie
import Derived.Deep.Slices
import Derived.Deep.Strs
import Derived.OpenShut
namespace Go.Proofs.Ytmmicbdjafolpae
open Go.RowKit Go.ChangeShapes Go.WideShapes Go.Deep

section
variable {H : Type} {enc : TypeId × Value → H} {P : Program} {w : World}

theorem cell_lt {b off : Nat} {v : Value} (h : w.cell? ⟨b, off, none⟩ = some v) : b < w.heap.size := by
  refine Classical.byContradiction fun hc => ?_
  have : w.heap[b]? = none := by simp; omega
  simp [World.cell?, this] at h

theorem open_facs {t e : TypeId} {fuel : Nat} {v : Value} {x : DataW H × List MemPlace} (ht : P.underlying t = some (.slice e)) (he : P.underlying e = some (.int .u64)) (hc : P.cellsOf e = 1)
    (h : DataW.trod enc P w 0 (fun _ => true) true fuel t [v] = some x) : ∃ (a : Option Addr) (L C : Nat) (F : Nat → Int), v = .slice a L C ∧ L ≤ C ∧ C ≤ maxLen ∧ FacsIn w a L F := by
  rcases open_ints ht he hc h with ⟨hcs, _⟩ | ⟨a, len, cap, zs, hcs, _, hl, hm, hz, _, hcell, hwz⟩
  · exact ⟨none, 0, 0, fun _ => 0, by simpa using hcs, Nat.le_refl _, Nat.zero_le _, Or.inl rfl⟩
  · simp only [if_true] at hz
    refine ⟨some a, len, cap, fun j => zs.getD j 0, by simpa using hcs, hl, hm, ?_⟩
    by_cases h0 : len = 0
    · exact Or.inl h0
    · obtain ⟨b, off, rfl, hc'⟩ := ints_at hcell (by omega)
      refine Or.inr ⟨b, off, rfl, cell_lt (hc' 0 (by omega)), fun j hj => ⟨hc' j (by omega), ?_⟩⟩
      have hj' : j < zs.length := by omega
      have e : zs.getD j 0 = zs[j] := by simp [List.getD, hj']
      show 0 ≤ zs.getD j 0 ∧ zs.getD j 0 ≤ 18446744073709551615
      rw [e]
      exact bounds_u64 (hwz _ (List.getElem_mem hj'))

theorem open_rows {t e u s : TypeId} {f0 f1 f2 : Field} (ht : P.underlying t = some (.slice e)) (he : P.underlying e = some (.struct #[f0, f1, f2])) (hu : P.underlying u = some (.int .u64)) (hs : P.underlying s = some (.slice u))
    (o0 : f0.offset = 0) (o1 : f1.offset = 1) (o2 : f2.offset = 2) (t0 : f0.type = u) (t1 : f1.type = u) (t2 : f2.type = s) (ce : P.cellsOf e = 3) (cu : P.cellsOf u = 1) (cs : P.cellsOf s = 1)
    {a : Option Addr} {n cap : Nat} {d : DataW H} {p : List MemPlace} (h : DataW.Trod enc P w 0 (fun _ => true) true t (.slice a n cap) d p) :
    n ≤ cap ∧ ∃ (N A : Nat → Int) (FA : Nat → Option Addr) (L C : Nat → Nat) (F : Nat → Nat → Int), RowsIn w a n N A FA L C F := by
  obtain ⟨fuel, hf⟩ := h
  rcases open_slice ht hf with ⟨hcs, _⟩ | ⟨a', len, cap', m, k, D, Pl, hcs, _, hl, hm, hmm, _, hx⟩
  · simp [Value.cells] at hcs
    obtain ⟨rfl, rfl, rfl⟩ := hcs
    exact ⟨Nat.le_refl _, fun _ => 0, fun _ => 0, fun _ => none, fun _ => 0, fun _ => 0, fun _ _ => 0, Or.inl rfl⟩
  simp [Value.cells] at hcs
  obtain ⟨rfl, rfl, rfl⟩ := hcs
  simp only [if_true] at hmm
  subst hmm
  refine ⟨hl, ?_⟩
  by_cases h0 : n = 0
  · exact ⟨fun _ => 0, fun _ => 0, fun _ => none, fun _ => 0, fun _ => 0, fun _ _ => 0, Or.inl h0⟩
  rw [ce] at hx
  -- the address is a plain one
  obtain ⟨b, off, spot⟩ := a'
  have hspot : spot = none := by
    obtain ⟨cs0, hc0, _⟩ := hx 0 (by omega)
    obtain ⟨_, hlen, hcell⟩ := World.cells?_some hc0
    have g := hcell 0 (by omega)
    have : ∃ v, cs0[0]? = some v := ⟨cs0[0], by simp⟩
    obtain ⟨v, hv⟩ := this
    rw [hv] at g
    simpa [Addr.add] using World.cell?_spot g
  subst hspot
  have each : ∀ i, i < m → ∃ y : Int × Int × Option Addr × Nat × Nat × (Nat → Int), RowAt w b (off + i * 3) y.1 y.2.1 y.2.2.1 y.2.2.2.1 y.2.2.2.2.1 y.2.2.2.2.2 := by
    intro i hi
    obtain ⟨cs', h1, h2⟩ := hx i hi
    obtain ⟨_, hlen, hcell⟩ := World.cells?_some h1
    obtain ⟨y0, y1, y2, k', _, _, g0, g1, g2⟩ := trod_struct3 he h2
    match cs', hlen with
    | [v0, v1, v2], _ =>
      simp [o0, o1, o2, t0, t1, t2, cu, cs] at g0 g1 g2
      obtain ⟨x0, e0, _, w0⟩ := DataW.trod_int hu g0
      obtain ⟨x1, e1, _, w1⟩ := DataW.trod_int hu g1
      obtain ⟨fa, L, C, F, e2, hL, hC, hF⟩ := open_facs hs hu cu g2
      simp at e0 e1
      subst e0 e1 e2
      have c0 := hcell 0 (by omega)
      have c1 := hcell 1 (by omega)
      have c2 := hcell 2 (by omega)
      simp only [add_plain] at c0 c1 c2
      have b0 := bounds_u64 w0
      have b1 := bounds_u64 w1
      exact ⟨(x0, x1, fa, L, C, F), by simpa using c0, by simpa using c1, by simpa using c2, b0.1, b0.2, b1.1, b1.2, hL, hC, hF⟩
  obtain ⟨y, hy⟩ := choose_lt each
  refine ⟨fun i => (y i).1, fun i => (y i).2.1, fun i => (y i).2.2.1, fun i => (y i).2.2.2.1, fun i => (y i).2.2.2.2.1, fun i => (y i).2.2.2.2.2, Or.inr ⟨b, off, rfl, cell_lt (hy 0 (by omega)).c0, fun i hi => hy i (by omega)⟩⟩

end
end Go.Proofs.Ytmmicbdjafolpae
