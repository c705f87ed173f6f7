/-
  Labelled lists, boxes, threes and what is made of draws, opened: what their reading says (layer 7).
-/
import Derived.Test.YtokhpppealdfmafK22
import Derived.Test.YtokhpppealdfmafK01
namespace Go.Proofs.Ytokhpppealdfmaf
open Go.RowKit Go.ChangeShapes Go.WideShapes Go.Deep

section
variable {H : Type} {enc : TypeId × Value → H} {P : Program} {w : World}

theorem open_str {st : TypeId} (hst : P.underlying st = some .string) {m : Nat} {c : Value} {y : DataW H × List MemPlace} (h : DataW.trod enc P w 0 (fun _ => true) true m st [c] = some y) : ∃ lab : List Int, c = .string (strOfNums lab) ∧ Bts lab := by
  obtain ⟨s, hs, _, _⟩ := DataW.trod_string hst h
  simp at hs
  subst hs
  exact ⟨numsOf s, by rw [numsOf_str], numsOf_bd s⟩

theorem open_labelled {t st s1 u : TypeId} {f0 f1 f2 : Field} (ht : P.underlying t = some (.struct #[f0, f1, f2])) (hst : P.underlying st = some .string) (h1 : P.underlying s1 = some (.slice u)) (hu : P.underlying u = some (.int .u64)) (o0 : f0.offset = 0) (o1 : f1.offset = 1) (o2 : f2.offset = 2) (t0 : f0.type = st) (t1 : f1.type = s1) (t2 : f2.type = s1) (ct : P.cellsOf t = 3) (cst : P.cellsOf st = 1) (c1 : P.cellsOf s1 = 1) (cu : P.cellsOf u = 1) {v : Value} {d : DataW H} {p : List MemPlace} (h : DataW.Trod enc P w 0 (fun _ => true) true t v d p) :
    ∃ (lab : List Int) (b1 : Option Addr) (n1 c1 : Nat) (X : Nat → Int) (b2 : Option Addr) (n2 c2 : Nat) (Y : Nat → Int), v = .agg #[.string (strOfNums lab), .slice b1 n1 c1, .slice b2 n2 c2] ∧ Bts lab ∧ n1 ≤ c1 ∧ FacsIn w b1 n1 X ∧ n2 ≤ c2 ∧ FacsIn w b2 n2 Y := by
  obtain ⟨m, hm⟩ := h
  obtain ⟨xs, n, _, _, hl, hlen, hf⟩ := DataW.trod_struct ht hm
  rw [ct] at hl
  have g0 := hf 0 f0 rfl
  have g1 := hf 1 f1 rfl
  have g2 := hf 2 f2 rfl
  have hlen : xs.length = 3 := hlen
  rw [List.getElem?_eq_getElem (by omega)] at g0 g1 g2
  cases v with
  | agg c =>
    obtain ⟨l⟩ := c
    match l, hl with
    | [a, b, c], _ =>
      simp [Value.cells, o0, o1, o2, t0, t1, t2, cst, c1] at g0 g1 g2
      obtain ⟨lab, rfl, hb⟩ := open_str hst g0
      obtain ⟨b1, n1, k1, X, e1, q1, _, hX⟩ := open_facs h1 hu cu g1
      obtain ⟨b2, n2, k2, Y, e2, q2, _, hY⟩ := open_facs h1 hu cu g2
      subst e1 e2
      exact ⟨lab, b1, n1, k1, X, b2, n2, k2, Y, rfl, hb, q1, hX, q2, hY⟩
  | _ => simp [Value.cells] at hl

/-- Three pairs. -/
theorem open_box {t e u : TypeId} {f0 f1 : Field} (ht : P.underlying t = some (.array 3 e)) (he : P.underlying e = some (.struct #[f0, f1])) (hu : P.underlying u = some (.int .u64)) (o0 : f0.offset = 0) (o1 : f1.offset = 1) (t0 : f0.type = u) (t1 : f1.type = u) (ct : P.cellsOf t = 6) (ce : P.cellsOf e = 2) (cu : P.cellsOf u = 1) {v : Value} {d : DataW H} {p : List MemPlace} (h : DataW.Trod enc P w 0 (fun _ => true) true t v d p) :
    ∃ x0 y0 x1 y1 x2 y2 : Int, v = .agg #[.int .u64 x0, .int .u64 y0, .int .u64 x1, .int .u64 y1, .int .u64 x2, .int .u64 y2] ∧ U64 x0 ∧ U64 y0 ∧ U64 x1 ∧ U64 y1 ∧ U64 x2 ∧ U64 y2 := by
  obtain ⟨m, hm⟩ := h
  obtain ⟨xs, n, _, _, hl, hlx, hi⟩ := DataW.trod_array ht hm
  rw [ct] at hl
  have g0 := hi 0 (by omega)
  have g1 := hi 1 (by omega)
  have g2 := hi 2 (by omega)
  rw [ce, List.getElem?_eq_getElem (by omega)] at g0 g1 g2
  cases v with
  | agg c =>
    obtain ⟨l⟩ := c
    match l, hl with
    | [a, b, c, d', e', f'], _ =>
      simp [Value.cells] at g0 g1 g2
      obtain ⟨x0, y0, e0, a0, b0⟩ := pair_cells he hu o0 o1 t0 t1 ce cu g0
      obtain ⟨x1, y1, e1, a1, b1⟩ := pair_cells he hu o0 o1 t0 t1 ce cu g1
      obtain ⟨x2, y2, e2, a2, b2⟩ := pair_cells he hu o0 o1 t0 t1 ce cu g2
      simp at e0 e1 e2
      obtain ⟨rfl, rfl⟩ := e0
      obtain ⟨rfl, rfl⟩ := e1
      obtain ⟨rfl, rfl⟩ := e2
      exact ⟨x0, y0, x1, y1, x2, y2, rfl, a0, b0, a1, b1, a2, b2⟩
  | _ => simp [Value.cells] at hl

theorem three_cells {t u : TypeId} {f0 f1 f2 : Field} (ht : P.underlying t = some (.struct #[f0, f1, f2])) (hu : P.underlying u = some (.int .u64)) (o0 : f0.offset = 0) (o1 : f1.offset = 1) (o2 : f2.offset = 2) (t0 : f0.type = u) (t1 : f1.type = u) (t2 : f2.type = u) (ct : P.cellsOf t = 3) (cu : P.cellsOf u = 1) {fuel : Nat} {cs : List Value} {x : DataW H × List MemPlace} (h : DataW.trod enc P w 0 (fun _ => true) true fuel t cs = some x) :
    ∃ x y z : Int, cs = [.int .u64 x, .int .u64 y, .int .u64 z] ∧ U64 x ∧ U64 y ∧ U64 z := by
  obtain ⟨xs, n, _, _, hl, hlen, hf⟩ := DataW.trod_struct ht h
  rw [ct] at hl
  have g0 := hf 0 f0 rfl
  have g1 := hf 1 f1 rfl
  have g2 := hf 2 f2 rfl
  have hlen : xs.length = 3 := hlen
  rw [List.getElem?_eq_getElem (by omega)] at g0 g1 g2
  match cs, hl with
  | [a, b, c], _ =>
    simp [o0, o1, o2, t0, t1, t2, cu] at g0 g1 g2
    obtain ⟨x, rfl, bx⟩ := open_u64 hu g0
    obtain ⟨y, rfl, by_⟩ := open_u64 hu g1
    obtain ⟨z, rfl, bz⟩ := open_u64 hu g2
    exact ⟨x, y, z, rfl, bx, by_, bz⟩
/-- Two threes. -/
theorem open_threes2 {tt t u : TypeId} {f0 f1 f2 : Field} (htt : P.underlying tt = some (.array 2 t)) (ht : P.underlying t = some (.struct #[f0, f1, f2])) (hu : P.underlying u = some (.int .u64)) (o0 : f0.offset = 0) (o1 : f1.offset = 1) (o2 : f2.offset = 2) (t0 : f0.type = u) (t1 : f1.type = u) (t2 : f2.type = u) (ctt : P.cellsOf tt = 6) (ct : P.cellsOf t = 3) (cu : P.cellsOf u = 1) {v : Value} {d : DataW H} {p : List MemPlace} (h : DataW.Trod enc P w 0 (fun _ => true) true tt v d p) :
    ∃ x y z x' y' z' : Int, v = .agg #[.int .u64 x, .int .u64 y, .int .u64 z, .int .u64 x', .int .u64 y', .int .u64 z'] ∧ U64 x ∧ U64 y ∧ U64 z ∧ U64 x' ∧ U64 y' ∧ U64 z' := by
  obtain ⟨m, hm⟩ := h
  obtain ⟨xs, n, _, _, hl, hlx, hi⟩ := DataW.trod_array htt hm
  rw [ctt] at hl
  have g0 := hi 0 (by omega)
  have g1 := hi 1 (by omega)
  rw [ct, List.getElem?_eq_getElem (by omega)] at g0 g1
  cases v with
  | agg c =>
    obtain ⟨l⟩ := c
    match l, hl with
    | [a, b, c, d', e', f'], _ =>
      simp [Value.cells] at g0 g1
      obtain ⟨x, y, z, e0, a0, b0, c0⟩ := three_cells ht hu o0 o1 o2 t0 t1 t2 ct cu g0
      obtain ⟨x', y', z', e1, a1, b1, c1⟩ := three_cells ht hu o0 o1 o2 t0 t1 t2 ct cu g1
      simp at e0 e1
      obtain ⟨rfl, rfl, rfl⟩ := e0
      obtain ⟨rfl, rfl, rfl⟩ := e1
      exact ⟨x, y, z, x', y', z', rfl, a0, b0, c0, a1, b1, c1⟩
  | _ => simp [Value.cells] at hl

theorem arr3_cells {t e : TypeId} (ht : P.underlying t = some (.array 3 e)) (he : P.underlying e = some (.int .u64)) (hc : P.cellsOf e = 1) (hk : P.cellsOf t = 3) {fuel : Nat} {cs : List Value} {x : DataW H × List MemPlace} (h : DataW.trod enc P w 0 (fun _ => true) true fuel t cs = some x) :
    ∃ x y z : Int, cs = [.int .u64 x, .int .u64 y, .int .u64 z] ∧ U64 x ∧ U64 y ∧ U64 z := by
  obtain ⟨xs, m, _, _, hl, hlx, hi⟩ := DataW.trod_array ht h
  rw [hk] at hl
  have g0 := hi 0 (by omega)
  have g1 := hi 1 (by omega)
  have g2 := hi 2 (by omega)
  rw [hc, List.getElem?_eq_getElem (by omega)] at g0 g1 g2
  match cs, hl with
  | [a, b, c], _ =>
    simp at g0 g1 g2
    obtain ⟨x, rfl, bx⟩ := open_u64 he g0
    obtain ⟨y, rfl, by_⟩ := open_u64 he g1
    obtain ⟨z, rfl, bz⟩ := open_u64 he g2
    exact ⟨x, y, z, rfl, bx, by_, bz⟩
/-- A label, two numbers, and two times three. -/
theorem open_made {t st u ar : TypeId} {f0 f1 f2 f3 f4 : Field} (ht : P.underlying t = some (.struct #[f0, f1, f2, f3, f4])) (hst : P.underlying st = some .string) (hu : P.underlying u = some (.int .u64)) (har : P.underlying ar = some (.array 3 u)) (o0 : f0.offset = 0) (o1 : f1.offset = 1) (o2 : f2.offset = 2) (o3 : f3.offset = 3) (o4 : f4.offset = 6) (t0 : f0.type = st) (t1 : f1.type = u) (t2 : f2.type = u) (t3 : f3.type = ar) (t4 : f4.type = ar) (ct : P.cellsOf t = 9) (cst : P.cellsOf st = 1) (cu : P.cellsOf u = 1) (car : P.cellsOf ar = 3) {v : Value} {d : DataW H} {p : List MemPlace} (h : DataW.Trod enc P w 0 (fun _ => true) true t v d p) :
    ∃ (lab : List Int) (x y r0 r1 r2 q0 q1 q2 : Int), v = .agg #[.string (strOfNums lab), .int .u64 x, .int .u64 y, .int .u64 r0, .int .u64 r1, .int .u64 r2, .int .u64 q0, .int .u64 q1, .int .u64 q2] ∧ Bts lab ∧ U64 x ∧ U64 y ∧ U64 r0 ∧ U64 r1 ∧ U64 r2 ∧ U64 q0 ∧ U64 q1 ∧ U64 q2 := by
  obtain ⟨m, hm⟩ := h
  obtain ⟨xs, n, _, _, hl, hlen, hf⟩ := DataW.trod_struct ht hm
  rw [ct] at hl
  have g0 := hf 0 f0 rfl
  have g1 := hf 1 f1 rfl
  have g2 := hf 2 f2 rfl
  have g3 := hf 3 f3 rfl
  have g4 := hf 4 f4 rfl
  have hlen : xs.length = 5 := hlen
  rw [List.getElem?_eq_getElem (by omega)] at g0 g1 g2 g3 g4
  cases v with
  | agg c =>
    obtain ⟨l⟩ := c
    match l, hl with
    | [a, b, c, d1, d2, d3, d4, d5, d6], _ =>
      simp [Value.cells, o0, o1, o2, o3, o4, t0, t1, t2, t3, t4, cst, cu, car] at g0 g1 g2 g3 g4
      obtain ⟨lab, rfl, hb⟩ := open_str hst g0
      obtain ⟨x, rfl, bx⟩ := open_u64 hu g1
      obtain ⟨y, rfl, by_⟩ := open_u64 hu g2
      obtain ⟨r0, r1, r2, e3, u0, u1, u2⟩ := arr3_cells har hu cu car g3
      obtain ⟨q0, q1, q2, e4, z0, z1, z2⟩ := arr3_cells har hu cu car g4
      simp at e3 e4
      obtain ⟨rfl, rfl, rfl⟩ := e3
      obtain ⟨rfl, rfl, rfl⟩ := e4
      exact ⟨lab, x, y, r0, r1, r2, q0, q1, q2, rfl, hb, bx, by_, u0, u1, u2, z0, z1, z2⟩
  | _ => simp [Value.cells] at hl

end
end Go.Proofs.Ytokhpppealdfmaf
