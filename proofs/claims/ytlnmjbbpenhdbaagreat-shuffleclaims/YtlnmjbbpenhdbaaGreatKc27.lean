/-
  A group that came in, opened: what its reading says of memory.
  Pairs, threes and arrays that came in, opened: what their reading says (layer 5).
  Labelled lists, boxes, threes and what is made of draws, opened: what their reading says (layer 7).
  Batches, orders, draws and jobs that came in, opened: what their reading says (layer 8).
  Talks of the shuffle and what is shown, opened: what their reading says (layer 8).
-/
import Derived.Test.YtlnmjbbpenhdbaaGreatKc05
import Derived.Test.YtlnmjbbpenhdbaaGreatKc26
import Derived.Test.YtlnmjbbpenhdbaaGreatKc06
import Derived.SizedLaws
import Derived.Test.YtlnmjbbpenhdbaaGreatKc08
import Derived.Test.YtlnmjbbpenhdbaaGreatKc23
namespace Go.Proofs.YtlnmjbbpenhdbaaGreat
open Go.RowKit Go.ChangeShapes Go.WideShapes Go.Deep

section
variable {H : Type} {enc : TypeId × Value → H} {P : Program} {w : World}

theorem trod_struct5 {t : TypeId} {f0 f1 f2 f3 f4 : Field} {fuel : Nat} {cs : List Value} {x : DataW H × List MemPlace} (ht : P.underlying t = some (.struct #[f0, f1, f2, f3, f4])) (h : DataW.trod enc P w 0 (fun _ => true) true fuel t cs = some x) :
    ∃ y0 y1 y2 y3 y4 n, cs.length = P.cellsOf t ∧ DataW.trod enc P w 0 (fun _ => true) true n f0.type ((cs.drop f0.offset).take (P.cellsOf f0.type)) = some y0 ∧
      DataW.trod enc P w 0 (fun _ => true) true n f1.type ((cs.drop f1.offset).take (P.cellsOf f1.type)) = some y1 ∧ DataW.trod enc P w 0 (fun _ => true) true n f2.type ((cs.drop f2.offset).take (P.cellsOf f2.type)) = some y2 ∧
      DataW.trod enc P w 0 (fun _ => true) true n f3.type ((cs.drop f3.offset).take (P.cellsOf f3.type)) = some y3 ∧ DataW.trod enc P w 0 (fun _ => true) true n f4.type ((cs.drop f4.offset).take (P.cellsOf f4.type)) = some y4 := by
  obtain ⟨xs, n, _, rfl, hl, hlen, hf⟩ := DataW.trod_struct ht h
  match xs, hlen with
  | [y0, y1, y2, y3, y4], _ => exact ⟨y0, y1, y2, y3, y4, n, hl, by simpa using hf 0 f0 rfl, by simpa using hf 1 f1 rfl, by simpa using hf 2 f2 rfl, by simpa using hf 3 f3 rfl, by simpa using hf 4 f4 rfl⟩

theorem open_params {t u r e s : TypeId} {f0 f1 f2 f3 f4 g0 g1 g2 : Field} (ht : P.underlying t = some (.struct #[f0, f1, f2, f3, f4])) (hu : P.underlying u = some (.int .u64)) (hr : P.underlying r = some (.slice e))
    (he : P.underlying e = some (.struct #[g0, g1, g2])) (hs : P.underlying s = some (.slice u)) (o0 : f0.offset = 0) (o1 : f1.offset = 1) (o2 : f2.offset = 2) (o3 : f3.offset = 3) (o4 : f4.offset = 4)
    (t0 : f0.type = u) (t1 : f1.type = u) (t2 : f2.type = u) (t3 : f3.type = u) (t4 : f4.type = r) (p0 : g0.offset = 0) (p1 : g1.offset = 1) (p2 : g2.offset = 2) (s0 : g0.type = u) (s1 : g1.type = u) (s2 : g2.type = s)
    (ct : P.cellsOf t = 5) (ce : P.cellsOf e = 3) (cu : P.cellsOf u = 1) (cr : P.cellsOf r = 1) (cs : P.cellsOf s = 1) {v : Value} {d : DataW H} {p : List MemPlace} (h : DataW.Trod enc P w 0 (fun _ => true) true t v d p) :
    ∃ (p q g k : Int) (a : Option Addr) (n cap : Nat), v = gv p q g k a n cap ∧ Four p q g k ∧ n ≤ cap ∧ ∃ (N A : Nat → Int) (FA : Nat → Option Addr) (L C : Nat → Nat) (F : Nat → Nat → Int), RowsIn w a n N A FA L C F := by
  obtain ⟨fuel, hf⟩ := h
  obtain ⟨y0, y1, y2, y3, y4, m, hl, k0, k1, k2, k3, k4⟩ := trod_struct5 ht hf
  rw [ct] at hl
  cases v with
  | agg c =>
    obtain ⟨l⟩ := c
    match l, hl with
    | [v0, v1, v2, v3, v4], _ =>
      simp [Value.cells, o0, o1, o2, o3, o4, t0, t1, t2, t3, t4, cu, cr] at k0 k1 k2 k3 k4
      obtain ⟨x0, e0, _, w0⟩ := DataW.trod_int hu k0
      obtain ⟨x1, e1, _, w1⟩ := DataW.trod_int hu k1
      obtain ⟨x2, e2, _, w2⟩ := DataW.trod_int hu k2
      obtain ⟨x3, e3, _, w3⟩ := DataW.trod_int hu k3
      simp at e0 e1 e2 e3
      subst e0 e1 e2 e3
      have hv4 : ∃ a n cap, v4 = .slice a n cap := by
        rcases open_slice hr k4 with ⟨hcs, _⟩ | ⟨a', len, cap', _, _, _, _, hcs, _⟩
        · exact ⟨none, 0, 0, by simpa using hcs⟩
        · exact ⟨some a', len, cap', by simpa using hcs⟩
      obtain ⟨a, n, cap, rfl⟩ := hv4
      have ko : DataW.Trod enc P w 0 (fun _ => true) true r (.slice a n cap) y4.1 y4.2 := ⟨m, by simpa [Value.cells] using k4⟩
      obtain ⟨hcap, N, A, FA, L, C, F, hin⟩ := open_rows hr he hu hs p0 p1 p2 s0 s1 s2 ce cu cs ko
      have b0 := bounds_u64 w0
      have b1 := bounds_u64 w1
      have b2 := bounds_u64 w2
      have b3 := bounds_u64 w3
      exact ⟨x0, x1, x2, x3, a, n, cap, rfl, ⟨b0.1, b0.2, b1.1, b1.2, b2.1, b2.2, b3.1, b3.2⟩, hcap, N, A, FA, L, C, F, hin⟩
  | _ => simp [Value.cells] at hl

end
end Go.Proofs.YtlnmjbbpenhdbaaGreat

namespace Go.Proofs.YtlnmjbbpenhdbaaGreat
open Go.RowKit Go.ChangeShapes Go.WideShapes Go.Deep

section
variable {H : Type} {enc : TypeId × Value → H} {P : Program} {w : World}

theorem open_u64 {e : TypeId} (he : P.underlying e = some (.int .u64)) {m : Nat} {c : Value} {y : DataW H × List MemPlace} (h : DataW.trod enc P w 0 (fun _ => true) true m e [c] = some y) : ∃ x : Int, c = .int .u64 x ∧ U64 x := by
  obtain ⟨x, hx, _, hw⟩ := DataW.trod_int he h
  simp at hx
  exact ⟨x, hx, (bounds_u64 hw).1, (bounds_u64 hw).2⟩

/-- A pair's cells. -/
theorem pair_cells {t u : TypeId} {f0 f1 : Field} (ht : P.underlying t = some (.struct #[f0, f1])) (hu : P.underlying u = some (.int .u64)) (o0 : f0.offset = 0) (o1 : f1.offset = 1) (t0 : f0.type = u) (t1 : f1.type = u) (ct : P.cellsOf t = 2) (cu : P.cellsOf u = 1) {fuel : Nat} {cs : List Value} {x : DataW H × List MemPlace} (h : DataW.trod enc P w 0 (fun _ => true) true fuel t cs = some x) :
    ∃ x y : Int, cs = [.int .u64 x, .int .u64 y] ∧ U64 x ∧ U64 y := by
  obtain ⟨xs, n, _, rfl, hl, hlen, hf⟩ := DataW.trod_struct ht h
  rw [ct] at hl
  have g0 := hf 0 f0 rfl
  have g1 := hf 1 f1 rfl
  have hlen : xs.length = 2 := hlen
  rw [List.getElem?_eq_getElem (by omega)] at g0 g1
  match cs, hl with
  | [a, b], _ =>
    simp [o0, o1, t0, t1, cu] at g0 g1
    obtain ⟨x, rfl, bx⟩ := open_u64 hu g0
    obtain ⟨y, rfl, by_⟩ := open_u64 hu g1
    exact ⟨x, y, rfl, bx, by_⟩
end
end Go.Proofs.YtlnmjbbpenhdbaaGreat

namespace Go.Proofs.YtlnmjbbpenhdbaaGreat
open Go.RowKit Go.ChangeShapes Go.WideShapes Go.Deep

section
variable {H : Type} {enc : TypeId × Value → H} {P : Program} {w : World}

theorem open_str {st : TypeId} (hst : P.underlying st = some .string) {m : Nat} {c : Value} {y : DataW H × List MemPlace} (h : DataW.trod enc P w 0 (fun _ => true) true m st [c] = some y) : ∃ lab : List Int, c = .string (strOfNums lab) ∧ Bts lab := by
  obtain ⟨s, hs, _, _⟩ := DataW.trod_string hst h
  simp at hs
  subst hs
  exact ⟨numsOf s, by rw [numsOf_str], numsOf_bd s⟩

theorem arr3_cells {t e : TypeId} (ht : P.underlying t = some (.array 3 e)) (he : P.underlying e = some (.int .u64)) (hc : P.cellsOf e = 1) (hk : P.cellsOf t = 3) {fuel : Nat} {cs : List Value} {x : DataW H × List MemPlace} (h : DataW.trod enc P w 0 (fun _ => true) true fuel t cs = some x) :
    ∃ x y z : Int, cs = [.int .u64 x, .int .u64 y, .int .u64 z] ∧ U64 x ∧ U64 y ∧ U64 z := by
  obtain ⟨xs, m, _, _, hl, hlx, hi⟩ := DataW.trod_array ht h
  rw [hk] at hl
  have g0 := hi 0 (by omega)
  have g1 := hi 1 (by omega)
  have g2 := hi 2 (by omega)
  rw [hc, List.getElem?_eq_getElem (by omega)] at g0 g1 g2
  match cs, hl with
  | [a, b, c], _ =>
    simp at g0 g1 g2
    obtain ⟨x, rfl, bx⟩ := open_u64 he g0
    obtain ⟨y, rfl, by_⟩ := open_u64 he g1
    obtain ⟨z, rfl, bz⟩ := open_u64 he g2
    exact ⟨x, y, z, rfl, bx, by_, bz⟩
end
end Go.Proofs.YtlnmjbbpenhdbaaGreat

namespace Go.Proofs.YtlnmjbbpenhdbaaGreat
set_option linter.unusedVariables false
open Go.RowKit Go.ChangeShapes Go.WideShapes Go.Deep

section
variable {H : Type} {enc : TypeId × Value → H} {P : Program} {w : World}

/-- A list of elements of sz whole numbers each. -/
theorem open_nums8 {t e : TypeId} {sz : Nat} (mk : Int → Value) (Bd : Int → Prop) (hsz : 0 < sz) (ht : P.underlying t = some (.slice e)) (ce : P.cellsOf e = sz)
    (dec : ∀ (fuel : Nat) (cs : List Value) (x : DataW H × List MemPlace), DataW.trod enc P w 0 (fun _ => true) true fuel e cs = some x → ∃ F : Nat → Int, ∀ k, k < sz → cs[k]? = some (mk (F k)) ∧ Bd (F k))
    {fuel : Nat} {v : Value} {x : DataW H × List MemPlace} (h : DataW.trod enc P w 0 (fun _ => true) true fuel t [v] = some x) :
    ∃ (a : Option Addr) (n cap : Nat) (F : Nat → Nat → Int), v = .slice a n cap ∧ n ≤ cap ∧ cap ≤ 9223372036854775807 ∧ (n = 0 ∨ ∃ b off, a = some ⟨b, off, none⟩ ∧ b < w.heap.size ∧ ∀ j, j < n → ∀ k, k < sz → w.cell? ⟨b, off + j * sz + k, none⟩ = some (mk (F j k)) ∧ Bd (F j k)) := by
  rcases open_slice ht h with ⟨hcs, _⟩ | ⟨a', len, cap', m, k, D, Pl, hcs, _, hl, hm, hmm, _, hx⟩
  · exact ⟨none, 0, 0, fun _ _ => 0, by simpa using hcs, Nat.le_refl _, Nat.zero_le _, Or.inl rfl⟩
  simp only [if_true] at hmm
  subst hmm
  unfold maxLen at hm
  have hv : v = .slice (some a') len m := by simpa using hcs
  by_cases h0 : len = 0
  · exact ⟨some a', len, m, fun _ _ => 0, hv, hl, by omega, Or.inl h0⟩
  rw [ce] at hx
  obtain ⟨b, off, spot⟩ := a'
  have hspot : spot = none := by
    obtain ⟨cs0, hc0, _⟩ := hx 0 (by omega)
    obtain ⟨_, hlen, hcell⟩ := World.cells?_some hc0
    have g := hcell 0 (by omega)
    have : ∃ v, cs0[0]? = some v := ⟨cs0[0], by simp⟩
    obtain ⟨v, hv⟩ := this
    rw [hv] at g
    simpa [Addr.add] using World.cell?_spot g
  subst hspot
  have each : ∀ i, i < m → ∃ y : Nat → Int, ∀ k, k < sz → w.cell? ⟨b, off + i * sz + k, none⟩ = some (mk (y k)) ∧ Bd (y k) := by
    intro i hi
    obtain ⟨cs', h1, h2⟩ := hx i hi
    obtain ⟨_, hlen, hcell⟩ := World.cells?_some h1
    obtain ⟨F, hF⟩ := dec _ _ _ h2
    refine ⟨F, fun k hk => ⟨?_, (hF k hk).2⟩⟩
    have c0 := hcell k (by omega)
    simp only [add_plain] at c0
    rw [c0]
    exact (hF k hk).1
  obtain ⟨y, hy⟩ := choose_lt each
  exact ⟨some ⟨b, off, none⟩, len, m, y, hv, hl, by omega, Or.inr ⟨b, off, rfl, cell_lt (hy 0 (by omega) 0 hsz).1, fun i hi => hy i (by omega)⟩⟩

theorem open_boxes8 {t e p u : TypeId} {f0 f1 : Field} (ht : P.underlying t = some (.slice e)) (he : P.underlying e = some (.array 3 p)) (hp : P.underlying p = some (.struct #[f0, f1])) (hu : P.underlying u = some (.int .u64)) (o0 : f0.offset = 0) (o1 : f1.offset = 1) (t0 : f0.type = u) (t1 : f1.type = u) (ce : P.cellsOf e = 6) (cp : P.cellsOf p = 2) (cu : P.cellsOf u = 1)
    {fuel : Nat} {v : Value} {x : DataW H × List MemPlace} (h : DataW.trod enc P w 0 (fun _ => true) true fuel t [v] = some x) :
    ∃ (a : Option Addr) (n cap : Nat) (C : Nat → Nat → Int), v = .slice a n cap ∧ n ≤ cap ∧ cap ≤ 9223372036854775807 ∧ BoxsIn w a n C :=
  open_nums8 (.int .u64) U64 (by omega) ht ce (fun fuel cs x h => by
    obtain ⟨xs, n, _, _, hl, hlx, hi⟩ := DataW.trod_array he h
    rw [ce] at hl
    have g0 := hi 0 (by omega)
    have g1 := hi 1 (by omega)
    have g2 := hi 2 (by omega)
    rw [cp, List.getElem?_eq_getElem (by omega)] at g0 g1 g2
    match cs, hl with
    | [a, b, c, d', e', f'], _ =>
      simp at g0 g1 g2
      obtain ⟨x0, y0, e0, a0, b0⟩ := pair_cells hp hu o0 o1 t0 t1 cp cu g0
      obtain ⟨x1, y1, e1, a1, b1⟩ := pair_cells hp hu o0 o1 t0 t1 cp cu g1
      obtain ⟨x2, y2, e2, a2, b2⟩ := pair_cells hp hu o0 o1 t0 t1 cp cu g2
      simp at e0 e1 e2
      obtain ⟨rfl, rfl⟩ := e0
      obtain ⟨rfl, rfl⟩ := e1
      obtain ⟨rfl, rfl⟩ := e2
      refine ⟨fun k => [x0, y0, x1, y1, x2, y2].getD k 0, fun k hk => ?_⟩
      match k, hk with
      | 0, _ => exact ⟨rfl, a0⟩
      | 1, _ => exact ⟨rfl, b0⟩
      | 2, _ => exact ⟨rfl, a1⟩
      | 3, _ => exact ⟨rfl, b1⟩
      | 4, _ => exact ⟨rfl, a2⟩
      | 5, _ => exact ⟨rfl, b2⟩) h
theorem open_rhos8 {t e u : TypeId} (ht : P.underlying t = some (.slice e)) (he : P.underlying e = some (.array 3 u)) (hu : P.underlying u = some (.int .u64)) (ce : P.cellsOf e = 3) (cu : P.cellsOf u = 1)
    {fuel : Nat} {v : Value} {x : DataW H × List MemPlace} (h : DataW.trod enc P w 0 (fun _ => true) true fuel t [v] = some x) :
    ∃ (a : Option Addr) (n cap : Nat) (R : Nat → Nat → Int), v = .slice a n cap ∧ n ≤ cap ∧ cap ≤ 9223372036854775807 ∧ RhoIn w a n R :=
  open_nums8 (.int .u64) U64 (by omega) ht ce (fun fuel cs x h => by
    obtain ⟨a, b, c, rfl, h0, h1, h2⟩ := arr3_cells he hu cu ce h
    refine ⟨fun k => [a, b, c].getD k 0, fun k hk => ?_⟩
    match k, hk with
    | 0, _ => exact ⟨rfl, h0⟩
    | 1, _ => exact ⟨rfl, h1⟩
    | 2, _ => exact ⟨rfl, h2⟩) h
theorem open_order8 {t e : TypeId} (ht : P.underlying t = some (.slice e)) (he : P.underlying e = some (.int .i64)) (ce : P.cellsOf e = 1)
    {fuel : Nat} {v : Value} {x : DataW H × List MemPlace} (h : DataW.trod enc P w 0 (fun _ => true) true fuel t [v] = some x) :
    ∃ (a : Option Addr) (n cap : Nat) (O : Nat → Int), v = .slice a n cap ∧ n ≤ cap ∧ cap ≤ 9223372036854775807 ∧ IntsIn w a n O := by
  obtain ⟨a, n, cap, F, e1, q1, q2, hF⟩ := open_nums8 (.int .i64) (fun x => -9223372036854775808 ≤ x ∧ x ≤ 9223372036854775807) (by omega) ht ce (fun fuel cs x h => by
    obtain ⟨x, hx, _, hw⟩ := DataW.trod_int he h
    subst hx
    refine ⟨fun _ => x, fun k hk => ?_⟩
    have : k = 0 := by omega
    subst this
    exact ⟨rfl, (bounds_i64 hw).1, (bounds_i64 hw).2⟩) h
  refine ⟨a, n, cap, fun j => F j 0, e1, q1, q2, ?_⟩
  rcases hF with h0 | ⟨b, off, ha, hb, hc⟩
  · exact Or.inl h0
  · exact Or.inr ⟨b, off, ha, hb, fun j hj => by have := hc j hj 0 (by omega); rwa [Nat.mul_one, Nat.add_zero] at this⟩
theorem open_nats8 {t u : TypeId} (ht : P.underlying t = some (.slice u)) (hu : P.underlying u = some (.int .u64)) (cu : P.cellsOf u = 1) {fuel : Nat} {v : Value} {x : DataW H × List MemPlace} (h : DataW.trod enc P w 0 (fun _ => true) true fuel t [v] = some x) :
    ∃ (a : Option Addr) (n cap : Nat) (F : Nat → Int), v = .slice a n cap ∧ n ≤ cap ∧ cap ≤ 9223372036854775807 ∧ FacsIn w a n F := by
  obtain ⟨a, n, cap, F, e, q1, q2, hF⟩ := open_facs ht hu cu h
  unfold maxLen at q2
  exact ⟨a, n, cap, F, e, q1, by omega, hF⟩
/-- What is known of draws that came in. -/
def DrawsIn (w : World) (bρ : Option Addr) (nρ cρ : Nat) (Rh : Nat → Nat → Int) (bR : Option Addr) (nR cR : Nat) (R : Nat → Int) (bS : Option Addr) (nS cS : Nat) (S : Nat → Int) (bT : Option Addr) (nT cT : Nat) (T : Nat → Int) (bD : Option Addr) (nD cD : Nat) (D : Nat → Int) : Prop :=
  RhoIn w bρ nρ Rh ∧ FacsIn w bR nR R ∧ FacsIn w bS nS S ∧ (nT ≤ cT ∧ cT ≤ 9223372036854775807) ∧ FacsIn w bT nT T ∧ (nD ≤ cD ∧ cD ≤ 9223372036854775807) ∧ FacsIn w bD nD D
theorem draws_cells {t r ar s u : TypeId} {f0 f1 f2 f3 f4 : Field} (ht : P.underlying t = some (.struct #[f0, f1, f2, f3, f4])) (hr : P.underlying r = some (.slice ar)) (har : P.underlying ar = some (.array 3 u)) (hs : P.underlying s = some (.slice u)) (hu : P.underlying u = some (.int .u64)) (o0 : f0.offset = 0) (o1 : f1.offset = 1) (o2 : f2.offset = 2) (o3 : f3.offset = 3) (o4 : f4.offset = 4) (t0 : f0.type = r) (t1 : f1.type = s) (t2 : f2.type = s) (t3 : f3.type = s) (t4 : f4.type = s) (ct : P.cellsOf t = 5) (cr : P.cellsOf r = 1) (car : P.cellsOf ar = 3) (cs1 : P.cellsOf s = 1) (cu : P.cellsOf u = 1) {fuel : Nat} {cs : List Value} {x : DataW H × List MemPlace} (h : DataW.trod enc P w 0 (fun _ => true) true fuel t cs = some x) :
    ∃ bρ nρ cρ Rh bR nR cR R bS nS cS S bT nT cT T bD nD cD D, cs = [.slice bρ nρ cρ, .slice bR nR cR, .slice bS nS cS, .slice bT nT cT, .slice bD nD cD] ∧ DrawsIn w bρ nρ cρ Rh bR nR cR R bS nS cS S bT nT cT T bD nD cD D := by
  obtain ⟨xs, n, _, _, hl, hlen, hf⟩ := DataW.trod_struct ht h
  rw [ct] at hl
  have g0 := hf 0 f0 rfl
  have g1 := hf 1 f1 rfl
  have g2 := hf 2 f2 rfl
  have g3 := hf 3 f3 rfl
  have g4 := hf 4 f4 rfl
  have hlen : xs.length = 5 := hlen
  rw [List.getElem?_eq_getElem (by omega)] at g0 g1 g2 g3 g4
  match cs, hl with
  | [a, b, c, d, e], _ =>
    simp [o0, o1, o2, o3, o4, t0, t1, t2, t3, t4, cr, cs1] at g0 g1 g2 g3 g4
    obtain ⟨bρ, nρ, cρ, Rh, rfl, _, _, h0⟩ := open_rhos8 hr har hu car cu g0
    obtain ⟨bR, nR, cR, R, rfl, _, _, h1⟩ := open_nats8 hs hu cu g1
    obtain ⟨bS, nS, cS, S, rfl, _, _, h2⟩ := open_nats8 hs hu cu g2
    obtain ⟨bT, nT, cT, T, rfl, p3, q3, h3⟩ := open_nats8 hs hu cu g3
    obtain ⟨bD, nD, cD, D, rfl, p4, q4, h4⟩ := open_nats8 hs hu cu g4
    exact ⟨bρ, nρ, cρ, Rh, bR, nR, cR, R, bS, nS, cS, S, bT, nT, cT, T, bD, nD, cD, D, rfl, h0, h1, h2, ⟨p3, q3⟩, h3, ⟨p4, q4⟩, h4⟩
theorem open_job8 {t st bx e p o ii dt r ar s u : TypeId} {f0 f1 f2 f3 f4 g0 g1 d0 d1 d2 d3 d4 : Field} (ht : P.underlying t = some (.struct #[f0, f1, f2, f3, f4])) (hst : P.underlying st = some .string) (hbx : P.underlying bx = some (.slice e)) (he : P.underlying e = some (.array 3 p)) (hp : P.underlying p = some (.struct #[g0, g1])) (ho : P.underlying o = some (.slice ii)) (hi : P.underlying ii = some (.int .i64)) (hd : P.underlying dt = some (.struct #[d0, d1, d2, d3, d4])) (hr : P.underlying r = some (.slice ar)) (har : P.underlying ar = some (.array 3 u)) (hs : P.underlying s = some (.slice u)) (hu : P.underlying u = some (.int .u64))
    (fo : f0.offset = 0 ∧ f1.offset = 1 ∧ f2.offset = 2 ∧ f3.offset = 3 ∧ f4.offset = 4) (ft : f0.type = st ∧ f1.type = u ∧ f2.type = bx ∧ f3.type = o ∧ f4.type = dt) (go : g0.offset = 0 ∧ g1.offset = 1 ∧ g0.type = u ∧ g1.type = u) (dof : d0.offset = 0 ∧ d1.offset = 1 ∧ d2.offset = 2 ∧ d3.offset = 3 ∧ d4.offset = 4) (dty : d0.type = r ∧ d1.type = s ∧ d2.type = s ∧ d3.type = s ∧ d4.type = s)
    (cc : P.cellsOf t = 9 ∧ P.cellsOf st = 1 ∧ P.cellsOf bx = 1 ∧ P.cellsOf e = 6 ∧ P.cellsOf p = 2 ∧ P.cellsOf o = 1 ∧ P.cellsOf ii = 1 ∧ P.cellsOf dt = 5 ∧ P.cellsOf r = 1 ∧ P.cellsOf ar = 3 ∧ P.cellsOf s = 1 ∧ P.cellsOf u = 1) {v : Value} {d : DataW H} {pl : List MemPlace} (h : DataW.Trod enc P w 0 (fun _ => true) true t v d pl) :
    ∃ (label : List Int) (y : Int) (bi : Option Addr) (l ci : Nat) (C : Nat → Nat → Int) (bo : Option Addr) (no co : Nat) (O : Nat → Int) (bρ : Option Addr) (nρ cρ : Nat) (Rh : Nat → Nat → Int) (bR : Option Addr) (nR cR : Nat) (R : Nat → Int) (bS : Option Addr) (nS cS : Nat) (S : Nat → Int) (bT : Option Addr) (nT cT : Nat) (T : Nat → Int) (bD : Option Addr) (nD cD : Nat) (D : Nat → Int),
      v = jv label y bi l ci bo no co bρ nρ cρ bR nR cR bS nS cS bT nT cT bD nD cD ∧ Bts label ∧ U64 y ∧ BoxsIn w bi l C ∧ IntsIn w bo no O ∧ DrawsIn w bρ nρ cρ Rh bR nR cR R bS nS cS S bT nT cT T bD nD cD D ∧ (l ≤ ci ∧ ci ≤ 9223372036854775807) ∧ (no ≤ co ∧ co ≤ 9223372036854775807) := by
  obtain ⟨m, hm⟩ := h
  obtain ⟨xs, n, _, _, hl, hlen, hf⟩ := DataW.trod_struct ht hm
  rw [cc.1] at hl
  have k0 := hf 0 f0 rfl
  have k1 := hf 1 f1 rfl
  have k2 := hf 2 f2 rfl
  have k3 := hf 3 f3 rfl
  have k4 := hf 4 f4 rfl
  have hlen : xs.length = 5 := hlen
  rw [List.getElem?_eq_getElem (by omega)] at k0 k1 k2 k3 k4
  obtain ⟨o0, o1, o2, o3, o4⟩ := fo
  obtain ⟨t0, t1, t2, t3, t4⟩ := ft
  obtain ⟨_, cst, cbx, ce, cp, co, ci, cdt, cr, car, cs, cu⟩ := cc
  cases v with
  | agg c =>
    obtain ⟨lst⟩ := c
    match lst, hl with
    | [a, b, c, d, e1, e2, e3, e4, e5], _ =>
      simp [Value.cells, o0, o1, o2, o3, o4, t0, t1, t2, t3, t4, cst, cbx, co, cdt, cu] at k0 k1 k2 k3 k4
      obtain ⟨lab, rfl, hb⟩ := open_str hst k0
      obtain ⟨y, rfl, by_⟩ := open_u64 hu k1
      obtain ⟨bi, l, ci2, C, rfl, p2, q2, h2⟩ := open_boxes8 hbx he hp hu go.1 go.2.1 go.2.2.1 go.2.2.2 ce cp cu k2
      obtain ⟨bo, no, co2, O, rfl, p3, q3, h3⟩ := open_order8 ho hi ci k3
      obtain ⟨bρ, nρ, cρ, Rh, bR, nR, cR, R, bS, nS, cS, S, bT, nT, cT, T, bD, nD, cD, D, ecs, hdr⟩ := draws_cells hd hr har hs hu dof.1 dof.2.1 dof.2.2.1 dof.2.2.2.1 dof.2.2.2.2 dty.1 dty.2.1 dty.2.2.1 dty.2.2.2.1 dty.2.2.2.2 cdt cr car cs cu k4
      simp at ecs
      obtain ⟨rfl, rfl, rfl, rfl, rfl⟩ := ecs
      exact ⟨lab, y, bi, l, ci2, C, bo, no, co2, O, bρ, nρ, cρ, Rh, bR, nR, cR, R, bS, nS, cS, S, bT, nT, cT, T, bD, nD, cD, D, rfl, hb, by_, h2, h3, hdr, ⟨p2, q2⟩, ⟨p3, q3⟩⟩
  | _ => simp [Value.cells] at hl
end
end Go.Proofs.YtlnmjbbpenhdbaaGreat

namespace Go.Proofs.YtlnmjbbpenhdbaaGreat
set_option linter.unusedVariables false
open Go.RowKit Go.ChangeShapes Go.WideShapes Go.Deep

section
variable {H : Type} {enc : TypeId × Value → H} {P : Program} {w : World}
theorem open_talk8 {t s u : TypeId} {f0 f1 f2 f3 f4 f5 : Field} (ht : P.underlying t = some (.struct #[f0, f1, f2, f3, f4, f5])) (hs : P.underlying s = some (.slice u)) (hu : P.underlying u = some (.int .u64)) (fo : f0.offset = 0 ∧ f1.offset = 1 ∧ f2.offset = 2 ∧ f3.offset = 3 ∧ f4.offset = 4 ∧ f5.offset = 5) (ft : f0.type = s ∧ f1.type = u ∧ f2.type = s ∧ f3.type = u ∧ f4.type = u ∧ f5.type = s) (cc : P.cellsOf t = 6 ∧ P.cellsOf s = 1 ∧ P.cellsOf u = 1) {v : Value} {d : DataW H} {pl : List MemPlace} (h : DataW.Trod enc P w 0 (fun _ => true) true t v d pl) :
    ∃ (ba : Option Addr) (na ca : Nat) (A : Nat → Int) (X : Int) (bb : Option Addr) (nb cb : Nat) (B : Nat → Int) (Y Z : Int) (bp : Option Addr) (np cp : Nat) (Pp : Nat → Int), v = tk ba na ca X bb nb cb Y Z bp np cp ∧ U64 X ∧ U64 Y ∧ U64 Z ∧ (na ≤ ca ∧ ca ≤ 9223372036854775807) ∧ FacsIn w ba na A ∧ (nb ≤ cb ∧ cb ≤ 9223372036854775807) ∧ FacsIn w bb nb B ∧ (np ≤ cp ∧ cp ≤ 9223372036854775807) ∧ FacsIn w bp np Pp := by
  obtain ⟨m, hm⟩ := h
  obtain ⟨xs, n, _, _, hl, hlen, hf⟩ := DataW.trod_struct ht hm
  rw [cc.1] at hl
  have k0 := hf 0 f0 rfl
  have k1 := hf 1 f1 rfl
  have k2 := hf 2 f2 rfl
  have k3 := hf 3 f3 rfl
  have k4 := hf 4 f4 rfl
  have k5 := hf 5 f5 rfl
  have hlen : xs.length = 6 := hlen
  rw [List.getElem?_eq_getElem (by omega)] at k0 k1 k2 k3 k4 k5
  obtain ⟨o0, o1, o2, o3, o4, o5⟩ := fo
  obtain ⟨t0, t1, t2, t3, t4, t5⟩ := ft
  obtain ⟨_, cs, cu⟩ := cc
  cases v with
  | agg c =>
    obtain ⟨lst⟩ := c
    match lst, hl with
    | [a, b, c, d, e, f], _ =>
      simp [Value.cells, o0, o1, o2, o3, o4, o5, t0, t1, t2, t3, t4, t5, cs, cu] at k0 k1 k2 k3 k4 k5
      obtain ⟨ba, na, ca, A, rfl, p0, q0, h0⟩ := open_nats8 hs hu cu k0
      obtain ⟨X, rfl, bX⟩ := open_u64 hu k1
      obtain ⟨bb, nb, cb, B, rfl, p2, q2, h2⟩ := open_nats8 hs hu cu k2
      obtain ⟨Y, rfl, bY⟩ := open_u64 hu k3
      obtain ⟨Z, rfl, bZ⟩ := open_u64 hu k4
      obtain ⟨bp, np, cp, Pp, rfl, p5, q5, h5⟩ := open_nats8 hs hu cu k5
      exact ⟨ba, na, ca, A, X, bb, nb, cb, B, Y, Z, bp, np, cp, Pp, rfl, bX, bY, bZ, ⟨p0, q0⟩, h0, ⟨p2, q2⟩, h2, ⟨p5, q5⟩, h5⟩
  | _ => simp [Value.cells] at hl
end
end Go.Proofs.YtlnmjbbpenhdbaaGreat
