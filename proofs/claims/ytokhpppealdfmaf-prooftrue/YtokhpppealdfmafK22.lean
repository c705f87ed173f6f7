/-
  Claims, talks and lists of lists that came in, opened: what their reading says of memory (layer 6).
  Threes that lie in a block, and what is crossed (layer 5).
-/
import Derived.Test.YtokhpppealdfmafK21
import Derived.Test.YtokhpppealdfmafK12
import Derived.SizedLaws
namespace Go.Proofs.Ytokhpppealdfmaf
open Go.RowKit Go.ChangeShapes Go.WideShapes Go.Deep

section
variable {H : Type} {enc : TypeId × Value → H} {P : Program} {w : World}

/-- A list of lists of numbers. -/
theorem open_lists {t e u : TypeId} (ht : P.underlying t = some (.slice e)) (he : P.underlying e = some (.slice u)) (hu : P.underlying u = some (.int .u64)) (ce : P.cellsOf e = 1) (cu : P.cellsOf u = 1) {fuel : Nat} {v : Value} {x : DataW H × List MemPlace}
    (h : DataW.trod enc P w 0 (fun _ => true) true fuel t [v] = some x) : ∃ (a : Option Addr) (n cap : Nat) (BA : Nat → Option Addr) (L C : Nat → Nat) (B : Nat → Nat → Int), v = .slice a n cap ∧ n ≤ cap ∧ cap ≤ 9223372036854775807 ∧ ListsIn w a n BA L C B := by
  rcases open_slice ht h with ⟨hcs, _⟩ | ⟨a', len, cap', m, k, D, Pl, hcs, _, hl, hm, hmm, _, hx⟩
  · exact ⟨none, 0, 0, fun _ => none, fun _ => 0, fun _ => 0, fun _ _ => 0, by simpa using hcs, Nat.le_refl _, Nat.zero_le _, Or.inl rfl⟩
  simp only [if_true] at hmm
  subst hmm
  unfold maxLen at hm
  have hv : v = .slice (some a') len m := by simpa using hcs
  by_cases h0 : len = 0
  · exact ⟨some a', len, m, fun _ => none, fun _ => 0, fun _ => 0, fun _ _ => 0, hv, hl, by omega, Or.inl h0⟩
  rw [ce] at hx
  obtain ⟨b, off, spot⟩ := a'
  have hspot : spot = none := by
    obtain ⟨cs0, hc0, _⟩ := hx 0 (by omega)
    obtain ⟨_, hlen, hcell⟩ := World.cells?_some hc0
    have g := hcell 0 (by omega)
    have : ∃ v, cs0[0]? = some v := ⟨cs0[0], by simp⟩
    obtain ⟨v, hv⟩ := this
    rw [hv] at g
    simpa [Addr.add] using World.cell?_spot g
  subst hspot
  have each : ∀ i, i < m → ∃ y : Option Addr × Nat × Nat × (Nat → Int), w.cell? ⟨b, off + i, none⟩ = some (.slice y.1 y.2.1 y.2.2.1) ∧ y.2.1 ≤ y.2.2.1 ∧ y.2.2.1 ≤ 9223372036854775807 ∧ FacsIn w y.1 y.2.1 y.2.2.2 := by
    intro i hi
    obtain ⟨cs', h1, h2⟩ := hx i hi
    obtain ⟨_, hlen, hcell⟩ := World.cells?_some h1
    match cs', hlen with
    | [v0], _ =>
      obtain ⟨fa, L, C, F, e2, hL, hC, hF⟩ := open_facs he hu cu h2
      subst e2
      have c0 := hcell 0 (by omega)
      simp only [add_plain] at c0
      unfold maxLen at hC
      exact ⟨(fa, L, C, F), by simpa using c0, hL, by show C ≤ _; omega, hF⟩
  obtain ⟨y, hy⟩ := choose_lt each
  exact ⟨some ⟨b, off, none⟩, len, m, fun i => (y i).1, fun i => (y i).2.1, fun i => (y i).2.2.1, fun i => (y i).2.2.2, hv, hl, by omega, Or.inr ⟨b, off, rfl, cell_lt (hy 0 (by omega)).1, fun i hi => hy i (by omega)⟩⟩

/-- How much a list takes stands among its weights. -/
theorem list_weight {t e : TypeId} (ht : P.underlying t = some (.slice e)) {fuel : Nat} {a : Option Addr} {n cap : Nat} {x : DataW H × List MemPlace} (h : DataW.trod enc P w 0 (fun _ => true) true fuel t [.slice a n cap] = some x) (hn : 0 < n) : ∃ k, (n + k) * P.bytesOf e ∈ x.1.weights P t := by
  rcases open_slice ht h with ⟨hcs, _⟩ | ⟨a', len, cap', m, k, D, Pl, hcs, _, hl, hm, hmm, hx, _⟩
  · simp at hcs
    omega
  · simp at hcs
    obtain ⟨rfl, rfl, rfl⟩ := hcs
    refine ⟨m - n, ?_⟩
    rw [hx]
    unfold DataW.weights
    rw [ht]
    simp

theorem open_claim {t s1 s2 u : TypeId} {f0 f1 : Field} (ht : P.underlying t = some (.struct #[f0, f1])) (h1 : P.underlying s1 = some (.slice u)) (h2 : P.underlying s2 = some (.slice s1)) (hu : P.underlying u = some (.int .u64)) (o0 : f0.offset = 0) (o1 : f1.offset = 1) (t0 : f0.type = s1) (t1 : f1.type = s2) (ct : P.cellsOf t = 2) (c1 : P.cellsOf s1 = 1) (c2 : P.cellsOf s2 = 1) (cu : P.cellsOf u = 1) {v : Value} {d : DataW H} {p : List MemPlace} (h : DataW.Trod enc P w 0 (fun _ => true) true t v d p) :
    ∃ (bt : Option Addr) (nt ct : Nat) (T : Nat → Int) (bb : Option Addr) (nb cb : Nat) (BA : Nat → Option Addr) (L C : Nat → Nat) (B : Nat → Nat → Int), v = cv bt nt ct bb nb cb ∧ ClaimIn w bt nt ct T bb nb cb BA L C B := by
  obtain ⟨m, hm⟩ := h
  obtain ⟨xs, n, _, _, hl, hlen, hf⟩ := DataW.trod_struct ht hm
  rw [ct] at hl
  have g0 := hf 0 f0 rfl
  have g1 := hf 1 f1 rfl
  have hlen : xs.length = 2 := hlen
  rw [List.getElem?_eq_getElem (by omega)] at g0 g1
  cases v with
  | agg c =>
    obtain ⟨l⟩ := c
    match l, hl with
    | [a, b], _ =>
      simp [Value.cells, o0, o1, t0, t1, c1, c2] at g0 g1
      obtain ⟨bt, nt, ct', T, e1, q1, q2, hT⟩ := open_facs h1 hu cu g0
      obtain ⟨bb, nb, cb, BA, L, C, B, e2, q3, q4, hB⟩ := open_lists h2 h1 hu c1 cu g1
      subst e1 e2
      unfold maxLen at q2
      exact ⟨bt, nt, ct', T, bb, nb, cb, BA, L, C, B, rfl, q1, by omega, q3, q4, hT, hB⟩
  | _ => simp [Value.cells] at hl

/-- A talk's cells. -/
theorem talk_cells {t s1 u : TypeId} {f0 f1 f2 : Field} (ht : P.underlying t = some (.struct #[f0, f1, f2])) (h1 : P.underlying s1 = some (.slice u)) (hu : P.underlying u = some (.int .u64)) (o0 : f0.offset = 0) (o1 : f1.offset = 1) (o2 : f2.offset = 2) (t0 : f0.type = u) (t1 : f1.type = s1) (t2 : f2.type = s1) (ct : P.cellsOf t = 3) (c1 : P.cellsOf s1 = 1) (cu : P.cellsOf u = 1) {fuel : Nat} {cs : List Value} {x : DataW H × List MemPlace} (h : DataW.trod enc P w 0 (fun _ => true) true fuel t cs = some x) :
    ∃ (e : Int) (b1 : Option Addr) (n1 c1 : Nat) (X : Nat → Int) (b2 : Option Addr) (n2 c2 : Nat) (Y : Nat → Int), cs = [.int .u64 e, .slice b1 n1 c1, .slice b2 n2 c2] ∧ U64 e ∧ n1 ≤ c1 ∧ FacsIn w b1 n1 X ∧ n2 ≤ c2 ∧ FacsIn w b2 n2 Y := by
  obtain ⟨xs, n, _, _, hl, hlen, hf⟩ := DataW.trod_struct ht h
  rw [ct] at hl
  have g0 := hf 0 f0 rfl
  have g1 := hf 1 f1 rfl
  have g2 := hf 2 f2 rfl
  have hlen : xs.length = 3 := hlen
  rw [List.getElem?_eq_getElem (by omega)] at g0 g1 g2
  match cs, hl with
  | [a, b, c], _ =>
    simp [o0, o1, o2, t0, t1, t2, cu, c1] at g0 g1 g2
    obtain ⟨e, he, _, hw⟩ := DataW.trod_int hu g0
    simp at he
    subst he
    obtain ⟨b1, n1, k1, X, e1, q1, _, hX⟩ := open_facs h1 hu cu g1
    obtain ⟨b2, n2, k2, Y, e2, q2, _, hY⟩ := open_facs h1 hu cu g2
    subst e1 e2
    exact ⟨e, b1, n1, k1, X, b2, n2, k2, Y, rfl, ⟨(bounds_u64 hw).1, (bounds_u64 hw).2⟩, q1, hX, q2, hY⟩
theorem open_talk {t s1 u : TypeId} {f0 f1 f2 : Field} (ht : P.underlying t = some (.struct #[f0, f1, f2])) (h1 : P.underlying s1 = some (.slice u)) (hu : P.underlying u = some (.int .u64)) (o0 : f0.offset = 0) (o1 : f1.offset = 1) (o2 : f2.offset = 2) (t0 : f0.type = u) (t1 : f1.type = s1) (t2 : f2.type = s1) (ct : P.cellsOf t = 3) (c1 : P.cellsOf s1 = 1) (cu : P.cellsOf u = 1) {v : Value} {d : DataW H} {p : List MemPlace} (h : DataW.Trod enc P w 0 (fun _ => true) true t v d p) :
    ∃ (e : Int) (b1 : Option Addr) (n1 c1 : Nat) (X : Nat → Int) (b2 : Option Addr) (n2 c2 : Nat) (Y : Nat → Int), v = .agg #[.int .u64 e, .slice b1 n1 c1, .slice b2 n2 c2] ∧ U64 e ∧ n1 ≤ c1 ∧ FacsIn w b1 n1 X ∧ n2 ≤ c2 ∧ FacsIn w b2 n2 Y := by
  obtain ⟨m, hm⟩ := h
  obtain ⟨e, b1, n1, k1, X, b2, n2, k2, Y, ec, r⟩ := talk_cells ht h1 hu o0 o1 o2 t0 t1 t2 ct c1 cu hm
  cases v with
  | agg c =>
    obtain ⟨l⟩ := c
    simp [Value.cells] at ec
    exact ⟨e, b1, n1, k1, X, b2, n2, k2, Y, by rw [ec], r⟩
  | _ => simp [Value.cells] at ec
/-- Two talks. -/
theorem open_talks2 {tt t s1 u : TypeId} {f0 f1 f2 : Field} (htt : P.underlying tt = some (.array 2 t)) (ht : P.underlying t = some (.struct #[f0, f1, f2])) (h1 : P.underlying s1 = some (.slice u)) (hu : P.underlying u = some (.int .u64)) (o0 : f0.offset = 0) (o1 : f1.offset = 1) (o2 : f2.offset = 2) (t0 : f0.type = u) (t1 : f1.type = s1) (t2 : f2.type = s1) (ctt : P.cellsOf tt = 6) (ct : P.cellsOf t = 3) (c1 : P.cellsOf s1 = 1) (cu : P.cellsOf u = 1) {v : Value} {d : DataW H} {p : List MemPlace} (h : DataW.Trod enc P w 0 (fun _ => true) true tt v d p) :
    ∃ (e : Int) (b1 : Option Addr) (n1 c1 : Nat) (X : Nat → Int) (b2 : Option Addr) (n2 c2 : Nat) (Y : Nat → Int) (e' : Int) (b1' : Option Addr) (n1' c1' : Nat) (X' : Nat → Int) (b2' : Option Addr) (n2' c2' : Nat) (Y' : Nat → Int),
      v = .agg #[.int .u64 e, .slice b1 n1 c1, .slice b2 n2 c2, .int .u64 e', .slice b1' n1' c1', .slice b2' n2' c2'] ∧ (U64 e ∧ n1 ≤ c1 ∧ FacsIn w b1 n1 X ∧ n2 ≤ c2 ∧ FacsIn w b2 n2 Y) ∧ (U64 e' ∧ n1' ≤ c1' ∧ FacsIn w b1' n1' X' ∧ n2' ≤ c2' ∧ FacsIn w b2' n2' Y') := by
  obtain ⟨m, hm⟩ := h
  obtain ⟨xs, n, _, _, hl, hlx, hi⟩ := DataW.trod_array htt hm
  rw [ctt] at hl
  have g0 := hi 0 (by omega)
  have g1 := hi 1 (by omega)
  rw [ct, List.getElem?_eq_getElem (by omega)] at g0 g1
  cases v with
  | agg c =>
    obtain ⟨l⟩ := c
    match l, hl with
    | [a, b, c, a', b', c'], _ =>
      simp [Value.cells] at g0 g1
      obtain ⟨e, b1, n1, k1, X, b2, n2, k2, Y, ec, r⟩ := talk_cells ht h1 hu o0 o1 o2 t0 t1 t2 ct c1 cu g0
      obtain ⟨e', b1', n1', k1', X', b2', n2', k2', Y', ec', r'⟩ := talk_cells ht h1 hu o0 o1 o2 t0 t1 t2 ct c1 cu g1
      simp at ec ec'
      obtain ⟨rfl, rfl, rfl⟩ := ec
      obtain ⟨rfl, rfl, rfl⟩ := ec'
      exact ⟨e, b1, n1, k1, X, b2, n2, k2, Y, e', b1', n1', k1', X', b2', n2', k2', Y', rfl, r, r'⟩
  | _ => simp [Value.cells] at hl

end
end Go.Proofs.Ytokhpppealdfmaf

namespace Go.Proofs.Ytokhpppealdfmaf
open Go.RowKit

/-- A three in its block behind what was laid out. -/
structure Td (w : World) (l : List (Array Value × TypeId)) (b : Nat) (u g v : Int) (W : World) : Prop where
  lain : Lain w l W
  far : w.heap.size + l.length ≤ b
  row : W.heap[b]? = some (.cells #[.int .u64 u, .int .u64 g, .int .u64 v] 62 (0, 0))
theorem Td.then {w W W' : World} {l : List (Array Value × TypeId)} {b : Nat} {u g v : Int} (h : Td w l b u g v W) (ho : Old W W') : Td w l b u g v W' :=
  ⟨h.lain.then ho, h.far, (ho.block _ (Array.getElem?_eq_some_iff.1 h.row).1).trans h.row⟩
theorem Td.c0 {w W : World} {l : List (Array Value × TypeId)} {b : Nat} {u g v : Int} (h : Td w l b u g v W) : W.cell? ⟨b, 0, none⟩ = some (.int .u64 u) := cell_of_row _ _ 0 _ _ (0, 0) h.row
theorem Td.c1 {w W : World} {l : List (Array Value × TypeId)} {b : Nat} {u g v : Int} (h : Td w l b u g v W) : W.cell? ⟨b, 1, none⟩ = some (.int .u64 g) := cell_of_row _ _ 1 _ _ (0, 0) h.row
theorem Td.c2 {w W : World} {l : List (Array Value × TypeId)} {b : Nat} {u g v : Int} (h : Td w l b u g v W) : W.cell? ⟨b, 2, none⟩ = some (.int .u64 v) := cell_of_row _ _ 2 _ _ (0, 0) h.row
theorem Td.set {w W : World} {l : List (Array Value × TypeId)} {b : Nat} {p q r : Int} (h : Td w l b p q r W) (u g v : Int) : Td w l b u g v (((W.setCell ⟨b, 0, none⟩ (.int .u64 u)).setCell ⟨b, 1, none⟩ (.int .u64 g)).setCell ⟨b, 2, none⟩ (.int .u64 v)) :=
  ⟨((h.lain.far h.far 0 _).far h.far 1 _).far h.far 2 _, h.far, by have := set_row (set_row (set_row h.row 0 (.int .u64 u)) 1 (.int .u64 g)) 2 (.int .u64 v); simpa using this⟩
theorem Td.last {w W : World} {l : List (Array Value × TypeId)} (h : Lain w l W) (u g v : Int) : Td w l W.heap.size u g v (W.alloc (.cells #[.int .u64 u, .int .u64 g, .int .u64 v] 62)) :=
  ⟨h.then ((Old.refl _).alloc _), h.size, heap_alloc_last W _⟩
theorem Td.early {w x W : World} {l : List (Array Value × TypeId)} {u g v : Int} (h : Lain w l x) (ho : Old (x.alloc (.cells #[.int .u64 u, .int .u64 g, .int .u64 v] 62)) W) : Td w l x.heap.size u g v W := (Td.last h u g v).then ho

/-- Crossed by the first k secrets to the key z: of (u, v0). -/
structure Crs (P Q G z u v0 : Int) (X : Nat → Int) (k : Nat) (g v : Int) : Prop where
  g0 : U64 g
  v1 : U64 v
  gi : inI P Q g = true
  by_ : ∃ T : Nat, g % P = G ^ T % P ∧ v * u ^ sm X k % P = v0 * z ^ T % P
theorem Righ.crs {P Q G z u v0 : Int} (h : Righ P Q G) (X : Nat → Int) (hv : U64 v0) : Crs P Q G z u v0 X 0 1 v0 :=
  ⟨⟨by omega, by omega⟩, hv, h.one_in, 0, by rw [Int.pow_zero], by show v0 * u ^ 0 % P = v0 * z ^ 0 % P; rw [Int.pow_zero, Int.pow_zero]⟩
theorem Crs.cross {P Q G z u v0 d : Int} {X : Nat → Int} {k : Nat} {g v : Int} (s : Crs P Q G z u v0 X k g v) (h : Righ P Q G) (hu : inI P Q u = true) (hz : inI P Q z = true) (hX : 0 ≤ X k) (hd : 0 ≤ d) :
    Crs P Q G z u v0 X (k + 1) (mulI g (expI P Q G d) P) (mulI (overI P v (expI P Q u (X k))) (expI P Q z d) P) := by
  obtain ⟨T, hg, hv⟩ := s.by_
  refine ⟨u64_mul _ _ _, u64_mul _ _ _, h.mul_in s.gi (h.exp_in h.gin), T + d.toNat, ?_, ?_⟩
  · rw [mul_cong h.ok hg (h.exp_cong h.gin hd), Int.pow_add]
  · have e1 := mul_cong (x := overI P v (expI P Q u (X k))) (y := expI P Q z d) h.ok rfl (h.exp_cong hz hd)
    have e2 : overI P v (expI P Q u (X k)) * u ^ (X k).toNat % P = v % P := by
      rw [← h.over_cong (h.exp_in hu (e := X k)) v]
      exact cong_mul rfl (h.exp_cong hu hX).symm
    have e3 := cong_mul (c := u ^ sm X (k + 1)) (d := u ^ sm X (k + 1)) e1 rfl
    rw [e3, show sm X (k + 1) = sm X k + (X k).toNat from rfl, Int.pow_add]
    have e4 : overI P v (expI P Q u (X k)) * z ^ d.toNat * (u ^ sm X k * u ^ (X k).toNat) = overI P v (expI P Q u (X k)) * u ^ (X k).toNat * (u ^ sm X k * z ^ d.toNat) := by
      simp only [Int.mul_assoc, Int.mul_comm, Int.mul_left_comm]
    rw [e4, cong_mul (c := u ^ sm X k * z ^ d.toNat) (d := u ^ sm X k * z ^ d.toNat) e2 rfl, ← Int.mul_assoc, cong_mul (c := z ^ d.toNat) (d := z ^ d.toNat) hv rfl, Int.pow_add, Int.mul_assoc]
/-- Crossed by all secrets: sealed for z. -/
theorem Crs.sealed {P Q G m y z u v0 : Int} {X : Nat → Int} {k : Nat} {g v : Int} (s : Crs P Q G z u v0 X k g v) (h : Righ P Q G) (hX : ∀ i, i < k → 0 ≤ X i) (hy : y = prodI P (fun i => expI P Q G (X i)) k) (hs : Sld P Q G m y u v0) : Sld P Q G m z g v := by
  obtain ⟨T, hg, hv⟩ := s.by_
  obtain ⟨R, hu, hv0⟩ := hs.by_
  refine ⟨s.g0, s.v1, s.gi, T, hg, ?_⟩
  have hyS : y % P = G ^ sm X k % P := hy ▸ h.keys_cong h.gin X k hX
  -- the element that is cancelled
  have hin : inI P Q (prodI P (fun i => expI P Q u (X i)) k) = true := h.prod_in k fun i _ => h.exp_in hs.ui
  have hp := h.keys_cong hs.ui X k hX
  refine h.cancel hin ?_
  have f1 : v * prodI P (fun i => expI P Q u (X i)) k % P = v0 * z ^ T % P := (cong_mul (a := v) (b := v) rfl hp).trans hv
  have f2 : m * z ^ T * prodI P (fun i => expI P Q u (X i)) k % P = m * z ^ T * (G ^ R) ^ sm X k % P := cong_mul rfl (hp.trans (cong_pow hu _))
  have f3 : v0 * z ^ T % P = m * (G ^ sm X k) ^ R * z ^ T % P := cong_mul (hv0.trans (cong_mul rfl (cong_pow hyS R))) rfl
  rw [f1, f2, f3, ← Int.pow_mul, ← Int.pow_mul, Nat.mul_comm R, Int.mul_assoc, Int.mul_assoc, Int.mul_comm (z ^ T)]
/-- Opened by one secret. -/
theorem Sld.opens1 {P Q G m z g v x : Int} (s : Sld P Q G m z g v) (h : Righ P Q G) (hm : inI P Q m = true) (hx : 0 ≤ x) (hz : z = expI P Q G x) : overI P v (prodI P (fun _ => expI P Q g x) 1) = m := by
  obtain ⟨R, hu, hv⟩ := s.by_
  have e := h.keys_cong s.ui (fun _ => x) 1 fun _ _ => hx
  have hzc : z % P = G ^ sm (fun _ => x) 1 % P := by
    rw [hz, h.exp_cong h.gin hx]
    show _ = G ^ (0 + x.toNat) % P
    rw [Nat.zero_add]
  exact h.opens hm hu hv hzc e (h.prod_in 1 fun i _ => h.exp_in s.ui)

end Go.Proofs.Ytokhpppealdfmaf
