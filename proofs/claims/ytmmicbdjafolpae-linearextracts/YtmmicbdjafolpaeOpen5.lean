/-
  Pairs, threes and arrays that came in, opened: what their reading says (layer 5).
-/
import Derived.Test.YtmmicbdjafolpaeOpen4
import Derived.Test.YtmmicbdjafolpaeVwor
namespace Go.Proofs.Ytmmicbdjafolpae
open Go.RowKit Go.ChangeShapes Go.WideShapes Go.Deep

section
variable {H : Type} {enc : TypeId × Value → H} {P : Program} {w : World}

/-- An array of k elements of one cell each. -/
theorem open_cells {t e : TypeId} {k : Nat} (ht : P.underlying t = some (.array k e)) (hc : P.cellsOf e = 1) (hk : P.cellsOf t = k) (hk2 : 2 ≤ k) {v : Value} {d : DataW H} {p : List MemPlace} (h : DataW.Trod enc P w 0 (fun _ => true) true t v d p) :
    ∃ (l : List Value) (m : Nat), v = .agg l.toArray ∧ l.length = k ∧ ∀ i (hi : i < l.length), ∃ y, DataW.trod enc P w 0 (fun _ => true) true m e [l[i]] = some y := by
  obtain ⟨fuel, hf⟩ := h
  obtain ⟨xs, m, _, _, hl, hlx, hi⟩ := DataW.trod_array ht hf
  rw [hk] at hl
  rw [hc] at hi
  cases v with
  | agg cs =>
    obtain ⟨l⟩ := cs
    refine ⟨l, m, rfl, by simpa [Value.cells] using hl, fun i hi' => ?_⟩
    have hlen : l.length = k := by simpa [Value.cells] using hl
    have g := hi i (by omega)
    rw [List.getElem?_eq_getElem (show i < xs.length by omega)] at g
    refine ⟨_, Eq.trans ?_ g⟩
    congr 1
    simp only [Value.cells, Nat.mul_one]
    rw [List.drop_eq_getElem_cons hi', List.take_succ_cons, List.take_zero]
  | _ => simp [Value.cells] at hl; omega

theorem open_u64 {e : TypeId} (he : P.underlying e = some (.int .u64)) {m : Nat} {c : Value} {y : DataW H × List MemPlace} (h : DataW.trod enc P w 0 (fun _ => true) true m e [c] = some y) : ∃ x : Int, c = .int .u64 x ∧ U64 x := by
  obtain ⟨x, hx, _, hw⟩ := DataW.trod_int he h
  simp at hx
  exact ⟨x, hx, (bounds_u64 hw).1, (bounds_u64 hw).2⟩

theorem open_u64s3 {t e : TypeId} (ht : P.underlying t = some (.array 3 e)) (he : P.underlying e = some (.int .u64)) (hc : P.cellsOf e = 1) (hk : P.cellsOf t = 3) {v : Value} {d : DataW H} {p : List MemPlace} (h : DataW.Trod enc P w 0 (fun _ => true) true t v d p) :
    ∃ x y z : Int, v = .agg #[.int .u64 x, .int .u64 y, .int .u64 z] ∧ U64 x ∧ U64 y ∧ U64 z := by
  obtain ⟨l, m, rfl, hl, hi⟩ := open_cells ht hc hk (by omega) h
  match l, hl with
  | [a, b, c], _ =>
    obtain ⟨_, h0⟩ := hi 0 (by simp)
    obtain ⟨_, h1⟩ := hi 1 (by simp)
    obtain ⟨_, h2⟩ := hi 2 (by simp)
    obtain ⟨x, rfl, bx⟩ := open_u64 he h0
    obtain ⟨y, rfl, by_⟩ := open_u64 he h1
    obtain ⟨z, rfl, bz⟩ := open_u64 he h2
    exact ⟨x, y, z, rfl, bx, by_, bz⟩
theorem open_u64s4 {t e : TypeId} (ht : P.underlying t = some (.array 4 e)) (he : P.underlying e = some (.int .u64)) (hc : P.cellsOf e = 1) (hk : P.cellsOf t = 4) {v : Value} {d : DataW H} {p : List MemPlace} (h : DataW.Trod enc P w 0 (fun _ => true) true t v d p) :
    ∃ x y z u : Int, v = .agg #[.int .u64 x, .int .u64 y, .int .u64 z, .int .u64 u] ∧ U64 x ∧ U64 y ∧ U64 z ∧ U64 u := by
  obtain ⟨l, m, rfl, hl, hi⟩ := open_cells ht hc hk (by omega) h
  match l, hl with
  | [a, b, c, d'], _ =>
    obtain ⟨_, h0⟩ := hi 0 (by simp)
    obtain ⟨_, h1⟩ := hi 1 (by simp)
    obtain ⟨_, h2⟩ := hi 2 (by simp)
    obtain ⟨_, h3⟩ := hi 3 (by simp)
    obtain ⟨x, rfl, bx⟩ := open_u64 he h0
    obtain ⟨y, rfl, by_⟩ := open_u64 he h1
    obtain ⟨z, rfl, bz⟩ := open_u64 he h2
    obtain ⟨u, rfl, bu⟩ := open_u64 he h3
    exact ⟨x, y, z, u, rfl, bx, by_, bz, bu⟩
/-- Two lists of numbers. -/
theorem open_lists2 {t e u : TypeId} (ht : P.underlying t = some (.array 2 e)) (he : P.underlying e = some (.slice u)) (hu : P.underlying u = some (.int .u64)) (hc : P.cellsOf e = 1) (hcu : P.cellsOf u = 1) (hk : P.cellsOf t = 2) {v : Value} {d : DataW H} {p : List MemPlace} (h : DataW.Trod enc P w 0 (fun _ => true) true t v d p) :
    ∃ (b1 : Option Addr) (l1 c1 : Nat) (X : Nat → Int) (b2 : Option Addr) (l2 c2 : Nat) (D : Nat → Int), v = .agg #[.slice b1 l1 c1, .slice b2 l2 c2] ∧ l1 ≤ c1 ∧ FacsIn w b1 l1 X ∧ l2 ≤ c2 ∧ FacsIn w b2 l2 D := by
  obtain ⟨l, m, rfl, hl, hi⟩ := open_cells ht hc hk (by omega) h
  match l, hl with
  | [a, b], _ =>
    obtain ⟨_, h0⟩ := hi 0 (by simp)
    obtain ⟨_, h1⟩ := hi 1 (by simp)
    obtain ⟨b1, l1, c1, X, e1, hc1, _, hX⟩ := open_facs he hu hcu h0
    obtain ⟨b2, l2, c2, D, e2, hc2, _, hD⟩ := open_facs he hu hcu h1
    simp at e1 e2
    subst e1 e2
    exact ⟨b1, l1, c1, X, b2, l2, c2, D, rfl, hc1, hX, hc2, hD⟩
/-- A list of numbers. -/
theorem open_list {t u : TypeId} (ht : P.underlying t = some (.slice u)) (hu : P.underlying u = some (.int .u64)) (hcu : P.cellsOf u = 1) {b : Option Addr} {len c : Nat} {d : DataW H} {p : List MemPlace} (h : DataW.Trod enc P w 0 (fun _ => true) true t (.slice b len c) d p) :
    ∃ S : Nat → Int, len ≤ c ∧ len ≤ 9223372036854775807 ∧ FacsIn w b len S := by
  obtain ⟨m, hm⟩ := h
  obtain ⟨_, _, _, S, e, hl, hmx, hS⟩ := open_facs ht hu hcu hm
  cases e
  refine ⟨S, hl, ?_, hS⟩
  unfold maxLen at hmx
  omega

/-- A pair's cells. -/
theorem pair_cells {t u : TypeId} {f0 f1 : Field} (ht : P.underlying t = some (.struct #[f0, f1])) (hu : P.underlying u = some (.int .u64)) (o0 : f0.offset = 0) (o1 : f1.offset = 1) (t0 : f0.type = u) (t1 : f1.type = u) (ct : P.cellsOf t = 2) (cu : P.cellsOf u = 1) {fuel : Nat} {cs : List Value} {x : DataW H × List MemPlace} (h : DataW.trod enc P w 0 (fun _ => true) true fuel t cs = some x) :
    ∃ x y : Int, cs = [.int .u64 x, .int .u64 y] ∧ U64 x ∧ U64 y := by
  obtain ⟨xs, n, _, rfl, hl, hlen, hf⟩ := DataW.trod_struct ht h
  rw [ct] at hl
  have g0 := hf 0 f0 rfl
  have g1 := hf 1 f1 rfl
  have hlen : xs.length = 2 := hlen
  rw [List.getElem?_eq_getElem (by omega)] at g0 g1
  match cs, hl with
  | [a, b], _ =>
    simp [o0, o1, t0, t1, cu] at g0 g1
    obtain ⟨x, rfl, bx⟩ := open_u64 hu g0
    obtain ⟨y, rfl, by_⟩ := open_u64 hu g1
    exact ⟨x, y, rfl, bx, by_⟩
theorem open_pair {t u : TypeId} {f0 f1 : Field} (ht : P.underlying t = some (.struct #[f0, f1])) (hu : P.underlying u = some (.int .u64)) (o0 : f0.offset = 0) (o1 : f1.offset = 1) (t0 : f0.type = u) (t1 : f1.type = u) (ct : P.cellsOf t = 2) (cu : P.cellsOf u = 1) {v : Value} {d : DataW H} {p : List MemPlace} (h : DataW.Trod enc P w 0 (fun _ => true) true t v d p) :
    ∃ x y : Int, v = pv x y ∧ U64 x ∧ U64 y := by
  obtain ⟨m, hm⟩ := h
  obtain ⟨x, y, e, bx, by_⟩ := pair_cells ht hu o0 o1 t0 t1 ct cu hm
  cases v with
  | agg c =>
    obtain ⟨l⟩ := c
    simp [Value.cells] at e
    exact ⟨x, y, by rw [e], bx, by_⟩
  | _ => simp [Value.cells] at e
theorem open_three {t u : TypeId} {f0 f1 f2 : Field} (ht : P.underlying t = some (.struct #[f0, f1, f2])) (hu : P.underlying u = some (.int .u64)) (o0 : f0.offset = 0) (o1 : f1.offset = 1) (o2 : f2.offset = 2) (t0 : f0.type = u) (t1 : f1.type = u) (t2 : f2.type = u) (ct : P.cellsOf t = 3) (cu : P.cellsOf u = 1) {v : Value} {d : DataW H} {p : List MemPlace} (h : DataW.Trod enc P w 0 (fun _ => true) true t v d p) :
    ∃ x y z : Int, v = tv x y z ∧ U64 x ∧ U64 y ∧ U64 z := by
  obtain ⟨m, hm⟩ := h
  obtain ⟨xs, n, _, _, hl, hlen, hf⟩ := DataW.trod_struct ht hm
  rw [ct] at hl
  have g0 := hf 0 f0 rfl
  have g1 := hf 1 f1 rfl
  have g2 := hf 2 f2 rfl
  have hlen : xs.length = 3 := hlen
  rw [List.getElem?_eq_getElem (by omega)] at g0 g1 g2
  cases v with
  | agg c =>
    obtain ⟨l⟩ := c
    match l, hl with
    | [a, b, c], _ =>
      simp [Value.cells, o0, o1, o2, t0, t1, t2, cu] at g0 g1 g2
      obtain ⟨x, rfl, bx⟩ := open_u64 hu g0
      obtain ⟨y, rfl, by_⟩ := open_u64 hu g1
      obtain ⟨z, rfl, bz⟩ := open_u64 hu g2
      exact ⟨x, y, z, rfl, bx, by_, bz⟩
  | _ => simp [Value.cells] at hl
/-- Two pairs. -/
theorem open_pairs2 {t e u : TypeId} {f0 f1 : Field} (ht : P.underlying t = some (.array 2 e)) (he : P.underlying e = some (.struct #[f0, f1])) (hu : P.underlying u = some (.int .u64)) (o0 : f0.offset = 0) (o1 : f1.offset = 1) (t0 : f0.type = u) (t1 : f1.type = u) (ct : P.cellsOf t = 4) (ce : P.cellsOf e = 2) (cu : P.cellsOf u = 1) {v : Value} {d : DataW H} {p : List MemPlace} (h : DataW.Trod enc P w 0 (fun _ => true) true t v d p) :
    ∃ x y z k : Int, v = .agg #[.int .u64 x, .int .u64 y, .int .u64 z, .int .u64 k] ∧ U64 x ∧ U64 y ∧ U64 z ∧ U64 k := by
  obtain ⟨m, hm⟩ := h
  obtain ⟨xs, n, _, _, hl, hlx, hi⟩ := DataW.trod_array ht hm
  rw [ct] at hl
  have g0 := hi 0 (by omega)
  have g1 := hi 1 (by omega)
  rw [ce, List.getElem?_eq_getElem (by omega)] at g0 g1
  cases v with
  | agg c =>
    obtain ⟨l⟩ := c
    match l, hl with
    | [a, b, c, d'], _ =>
      simp [Value.cells] at g0 g1
      obtain ⟨x, y, e0, bx, by_⟩ := pair_cells he hu o0 o1 t0 t1 ce cu g0
      obtain ⟨z, k, e1, bz, bk⟩ := pair_cells he hu o0 o1 t0 t1 ce cu g1
      simp at e0 e1
      obtain ⟨rfl, rfl⟩ := e0
      obtain ⟨rfl, rfl⟩ := e1
      exact ⟨x, y, z, k, rfl, bx, by_, bz, bk⟩
  | _ => simp [Value.cells] at hl

end
end Go.Proofs.Ytmmicbdjafolpae
