/-
  Claims, talks and lists of lists that came in, opened: what their reading says of memory (layer 6).
-/
import Derived.Test.YtmmicbdjafolpaeOpen5
import Derived.Test.YtmmicbdjafolpaeLlie
import Derived.SizedLaws
namespace Go.Proofs.Ytmmicbdjafolpae
open Go.RowKit Go.ChangeShapes Go.WideShapes Go.Deep

section
variable {H : Type} {enc : TypeId × Value → H} {P : Program} {w : World}

/-- A list of lists of numbers. -/
theorem open_lists {t e u : TypeId} (ht : P.underlying t = some (.slice e)) (he : P.underlying e = some (.slice u)) (hu : P.underlying u = some (.int .u64)) (ce : P.cellsOf e = 1) (cu : P.cellsOf u = 1) {fuel : Nat} {v : Value} {x : DataW H × List MemPlace}
    (h : DataW.trod enc P w 0 (fun _ => true) true fuel t [v] = some x) : ∃ (a : Option Addr) (n cap : Nat) (BA : Nat → Option Addr) (L C : Nat → Nat) (B : Nat → Nat → Int), v = .slice a n cap ∧ n ≤ cap ∧ cap ≤ 9223372036854775807 ∧ ListsIn w a n BA L C B := by
  rcases open_slice ht h with ⟨hcs, _⟩ | ⟨a', len, cap', m, k, D, Pl, hcs, _, hl, hm, hmm, _, hx⟩
  · exact ⟨none, 0, 0, fun _ => none, fun _ => 0, fun _ => 0, fun _ _ => 0, by simpa using hcs, Nat.le_refl _, Nat.zero_le _, Or.inl rfl⟩
  simp only [if_true] at hmm
  subst hmm
  unfold maxLen at hm
  have hv : v = .slice (some a') len m := by simpa using hcs
  by_cases h0 : len = 0
  · exact ⟨some a', len, m, fun _ => none, fun _ => 0, fun _ => 0, fun _ _ => 0, hv, hl, by omega, Or.inl h0⟩
  rw [ce] at hx
  obtain ⟨b, off, spot⟩ := a'
  have hspot : spot = none := by
    obtain ⟨cs0, hc0, _⟩ := hx 0 (by omega)
    obtain ⟨_, hlen, hcell⟩ := World.cells?_some hc0
    have g := hcell 0 (by omega)
    have : ∃ v, cs0[0]? = some v := ⟨cs0[0], by simp⟩
    obtain ⟨v, hv⟩ := this
    rw [hv] at g
    simpa [Addr.add] using World.cell?_spot g
  subst hspot
  have each : ∀ i, i < m → ∃ y : Option Addr × Nat × Nat × (Nat → Int), w.cell? ⟨b, off + i, none⟩ = some (.slice y.1 y.2.1 y.2.2.1) ∧ y.2.1 ≤ y.2.2.1 ∧ y.2.2.1 ≤ 9223372036854775807 ∧ FacsIn w y.1 y.2.1 y.2.2.2 := by
    intro i hi
    obtain ⟨cs', h1, h2⟩ := hx i hi
    obtain ⟨_, hlen, hcell⟩ := World.cells?_some h1
    match cs', hlen with
    | [v0], _ =>
      obtain ⟨fa, L, C, F, e2, hL, hC, hF⟩ := open_facs he hu cu h2
      subst e2
      have c0 := hcell 0 (by omega)
      simp only [add_plain] at c0
      unfold maxLen at hC
      exact ⟨(fa, L, C, F), by simpa using c0, hL, by show C ≤ _; omega, hF⟩
  obtain ⟨y, hy⟩ := choose_lt each
  exact ⟨some ⟨b, off, none⟩, len, m, fun i => (y i).1, fun i => (y i).2.1, fun i => (y i).2.2.1, fun i => (y i).2.2.2, hv, hl, by omega, Or.inr ⟨b, off, rfl, cell_lt (hy 0 (by omega)).1, fun i hi => hy i (by omega)⟩⟩

/-- How much a list takes stands among its weights. -/
theorem list_weight {t e : TypeId} (ht : P.underlying t = some (.slice e)) {fuel : Nat} {a : Option Addr} {n cap : Nat} {x : DataW H × List MemPlace} (h : DataW.trod enc P w 0 (fun _ => true) true fuel t [.slice a n cap] = some x) (hn : 0 < n) : ∃ k, (n + k) * P.bytesOf e ∈ x.1.weights P t := by
  rcases open_slice ht h with ⟨hcs, _⟩ | ⟨a', len, cap', m, k, D, Pl, hcs, _, hl, hm, hmm, hx, _⟩
  · simp at hcs
    omega
  · simp at hcs
    obtain ⟨rfl, rfl, rfl⟩ := hcs
    refine ⟨m - n, ?_⟩
    rw [hx]
    unfold DataW.weights
    rw [ht]
    simp

theorem open_claim {t s1 s2 u : TypeId} {f0 f1 : Field} (ht : P.underlying t = some (.struct #[f0, f1])) (h1 : P.underlying s1 = some (.slice u)) (h2 : P.underlying s2 = some (.slice s1)) (hu : P.underlying u = some (.int .u64)) (o0 : f0.offset = 0) (o1 : f1.offset = 1) (t0 : f0.type = s1) (t1 : f1.type = s2) (ct : P.cellsOf t = 2) (c1 : P.cellsOf s1 = 1) (c2 : P.cellsOf s2 = 1) (cu : P.cellsOf u = 1) {v : Value} {d : DataW H} {p : List MemPlace} (h : DataW.Trod enc P w 0 (fun _ => true) true t v d p) :
    ∃ (bt : Option Addr) (nt ct : Nat) (T : Nat → Int) (bb : Option Addr) (nb cb : Nat) (BA : Nat → Option Addr) (L C : Nat → Nat) (B : Nat → Nat → Int), v = cv bt nt ct bb nb cb ∧ ClaimIn w bt nt ct T bb nb cb BA L C B := by
  obtain ⟨m, hm⟩ := h
  obtain ⟨xs, n, _, _, hl, hlen, hf⟩ := DataW.trod_struct ht hm
  rw [ct] at hl
  have g0 := hf 0 f0 rfl
  have g1 := hf 1 f1 rfl
  have hlen : xs.length = 2 := hlen
  rw [List.getElem?_eq_getElem (by omega)] at g0 g1
  cases v with
  | agg c =>
    obtain ⟨l⟩ := c
    match l, hl with
    | [a, b], _ =>
      simp [Value.cells, o0, o1, t0, t1, c1, c2] at g0 g1
      obtain ⟨bt, nt, ct', T, e1, q1, q2, hT⟩ := open_facs h1 hu cu g0
      obtain ⟨bb, nb, cb, BA, L, C, B, e2, q3, q4, hB⟩ := open_lists h2 h1 hu c1 cu g1
      subst e1 e2
      unfold maxLen at q2
      exact ⟨bt, nt, ct', T, bb, nb, cb, BA, L, C, B, rfl, q1, by omega, q3, q4, hT, hB⟩
  | _ => simp [Value.cells] at hl

/-- A talk's cells. -/
theorem talk_cells {t s1 u : TypeId} {f0 f1 f2 : Field} (ht : P.underlying t = some (.struct #[f0, f1, f2])) (h1 : P.underlying s1 = some (.slice u)) (hu : P.underlying u = some (.int .u64)) (o0 : f0.offset = 0) (o1 : f1.offset = 1) (o2 : f2.offset = 2) (t0 : f0.type = u) (t1 : f1.type = s1) (t2 : f2.type = s1) (ct : P.cellsOf t = 3) (c1 : P.cellsOf s1 = 1) (cu : P.cellsOf u = 1) {fuel : Nat} {cs : List Value} {x : DataW H × List MemPlace} (h : DataW.trod enc P w 0 (fun _ => true) true fuel t cs = some x) :
    ∃ (e : Int) (b1 : Option Addr) (n1 c1 : Nat) (X : Nat → Int) (b2 : Option Addr) (n2 c2 : Nat) (Y : Nat → Int), cs = [.int .u64 e, .slice b1 n1 c1, .slice b2 n2 c2] ∧ U64 e ∧ n1 ≤ c1 ∧ FacsIn w b1 n1 X ∧ n2 ≤ c2 ∧ FacsIn w b2 n2 Y := by
  obtain ⟨xs, n, _, _, hl, hlen, hf⟩ := DataW.trod_struct ht h
  rw [ct] at hl
  have g0 := hf 0 f0 rfl
  have g1 := hf 1 f1 rfl
  have g2 := hf 2 f2 rfl
  have hlen : xs.length = 3 := hlen
  rw [List.getElem?_eq_getElem (by omega)] at g0 g1 g2
  match cs, hl with
  | [a, b, c], _ =>
    simp [o0, o1, o2, t0, t1, t2, cu, c1] at g0 g1 g2
    obtain ⟨e, he, _, hw⟩ := DataW.trod_int hu g0
    simp at he
    subst he
    obtain ⟨b1, n1, k1, X, e1, q1, _, hX⟩ := open_facs h1 hu cu g1
    obtain ⟨b2, n2, k2, Y, e2, q2, _, hY⟩ := open_facs h1 hu cu g2
    subst e1 e2
    exact ⟨e, b1, n1, k1, X, b2, n2, k2, Y, rfl, ⟨(bounds_u64 hw).1, (bounds_u64 hw).2⟩, q1, hX, q2, hY⟩
theorem open_talk {t s1 u : TypeId} {f0 f1 f2 : Field} (ht : P.underlying t = some (.struct #[f0, f1, f2])) (h1 : P.underlying s1 = some (.slice u)) (hu : P.underlying u = some (.int .u64)) (o0 : f0.offset = 0) (o1 : f1.offset = 1) (o2 : f2.offset = 2) (t0 : f0.type = u) (t1 : f1.type = s1) (t2 : f2.type = s1) (ct : P.cellsOf t = 3) (c1 : P.cellsOf s1 = 1) (cu : P.cellsOf u = 1) {v : Value} {d : DataW H} {p : List MemPlace} (h : DataW.Trod enc P w 0 (fun _ => true) true t v d p) :
    ∃ (e : Int) (b1 : Option Addr) (n1 c1 : Nat) (X : Nat → Int) (b2 : Option Addr) (n2 c2 : Nat) (Y : Nat → Int), v = .agg #[.int .u64 e, .slice b1 n1 c1, .slice b2 n2 c2] ∧ U64 e ∧ n1 ≤ c1 ∧ FacsIn w b1 n1 X ∧ n2 ≤ c2 ∧ FacsIn w b2 n2 Y := by
  obtain ⟨m, hm⟩ := h
  obtain ⟨e, b1, n1, k1, X, b2, n2, k2, Y, ec, r⟩ := talk_cells ht h1 hu o0 o1 o2 t0 t1 t2 ct c1 cu hm
  cases v with
  | agg c =>
    obtain ⟨l⟩ := c
    simp [Value.cells] at ec
    exact ⟨e, b1, n1, k1, X, b2, n2, k2, Y, by rw [ec], r⟩
  | _ => simp [Value.cells] at ec
/-- Two talks. -/
theorem open_talks2 {tt t s1 u : TypeId} {f0 f1 f2 : Field} (htt : P.underlying tt = some (.array 2 t)) (ht : P.underlying t = some (.struct #[f0, f1, f2])) (h1 : P.underlying s1 = some (.slice u)) (hu : P.underlying u = some (.int .u64)) (o0 : f0.offset = 0) (o1 : f1.offset = 1) (o2 : f2.offset = 2) (t0 : f0.type = u) (t1 : f1.type = s1) (t2 : f2.type = s1) (ctt : P.cellsOf tt = 6) (ct : P.cellsOf t = 3) (c1 : P.cellsOf s1 = 1) (cu : P.cellsOf u = 1) {v : Value} {d : DataW H} {p : List MemPlace} (h : DataW.Trod enc P w 0 (fun _ => true) true tt v d p) :
    ∃ (e : Int) (b1 : Option Addr) (n1 c1 : Nat) (X : Nat → Int) (b2 : Option Addr) (n2 c2 : Nat) (Y : Nat → Int) (e' : Int) (b1' : Option Addr) (n1' c1' : Nat) (X' : Nat → Int) (b2' : Option Addr) (n2' c2' : Nat) (Y' : Nat → Int),
      v = .agg #[.int .u64 e, .slice b1 n1 c1, .slice b2 n2 c2, .int .u64 e', .slice b1' n1' c1', .slice b2' n2' c2'] ∧ (U64 e ∧ n1 ≤ c1 ∧ FacsIn w b1 n1 X ∧ n2 ≤ c2 ∧ FacsIn w b2 n2 Y) ∧ (U64 e' ∧ n1' ≤ c1' ∧ FacsIn w b1' n1' X' ∧ n2' ≤ c2' ∧ FacsIn w b2' n2' Y') := by
  obtain ⟨m, hm⟩ := h
  obtain ⟨xs, n, _, _, hl, hlx, hi⟩ := DataW.trod_array htt hm
  rw [ctt] at hl
  have g0 := hi 0 (by omega)
  have g1 := hi 1 (by omega)
  rw [ct, List.getElem?_eq_getElem (by omega)] at g0 g1
  cases v with
  | agg c =>
    obtain ⟨l⟩ := c
    match l, hl with
    | [a, b, c, a', b', c'], _ =>
      simp [Value.cells] at g0 g1
      obtain ⟨e, b1, n1, k1, X, b2, n2, k2, Y, ec, r⟩ := talk_cells ht h1 hu o0 o1 o2 t0 t1 t2 ct c1 cu g0
      obtain ⟨e', b1', n1', k1', X', b2', n2', k2', Y', ec', r'⟩ := talk_cells ht h1 hu o0 o1 o2 t0 t1 t2 ct c1 cu g1
      simp at ec ec'
      obtain ⟨rfl, rfl, rfl⟩ := ec
      obtain ⟨rfl, rfl, rfl⟩ := ec'
      exact ⟨e, b1, n1, k1, X, b2, n2, k2, Y, e', b1', n1', k1', X', b2', n2', k2', Y', rfl, r, r'⟩
  | _ => simp [Value.cells] at hl

end
end Go.Proofs.Ytmmicbdjafolpae
