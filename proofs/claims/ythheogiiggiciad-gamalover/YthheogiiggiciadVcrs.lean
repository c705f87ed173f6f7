/-
  Threes that lie in a block, and what is crossed (layer 5).
-/
import Derived.Test.YthheogiiggiciadVapp
namespace Go.Proofs.Ythheogiiggiciad
open Go.RowKit

/-- A three in its block behind what was laid out. -/
structure Td (w : World) (l : List (Array Value × TypeId)) (b : Nat) (u g v : Int) (W : World) : Prop where
  lain : Lain w l W
  far : w.heap.size + l.length ≤ b
  row : W.heap[b]? = some (.cells #[.int .u64 u, .int .u64 g, .int .u64 v] 41 (0, 0))
theorem Td.then {w W W' : World} {l : List (Array Value × TypeId)} {b : Nat} {u g v : Int} (h : Td w l b u g v W) (ho : Old W W') : Td w l b u g v W' :=
  ⟨h.lain.then ho, h.far, (ho.block _ (Array.getElem?_eq_some_iff.1 h.row).1).trans h.row⟩
theorem Td.c0 {w W : World} {l : List (Array Value × TypeId)} {b : Nat} {u g v : Int} (h : Td w l b u g v W) : W.cell? ⟨b, 0, none⟩ = some (.int .u64 u) := cell_of_row _ _ 0 _ _ (0, 0) h.row
theorem Td.c1 {w W : World} {l : List (Array Value × TypeId)} {b : Nat} {u g v : Int} (h : Td w l b u g v W) : W.cell? ⟨b, 1, none⟩ = some (.int .u64 g) := cell_of_row _ _ 1 _ _ (0, 0) h.row
theorem Td.c2 {w W : World} {l : List (Array Value × TypeId)} {b : Nat} {u g v : Int} (h : Td w l b u g v W) : W.cell? ⟨b, 2, none⟩ = some (.int .u64 v) := cell_of_row _ _ 2 _ _ (0, 0) h.row
theorem Td.set {w W : World} {l : List (Array Value × TypeId)} {b : Nat} {p q r : Int} (h : Td w l b p q r W) (u g v : Int) : Td w l b u g v (((W.setCell ⟨b, 0, none⟩ (.int .u64 u)).setCell ⟨b, 1, none⟩ (.int .u64 g)).setCell ⟨b, 2, none⟩ (.int .u64 v)) :=
  ⟨((h.lain.far h.far 0 _).far h.far 1 _).far h.far 2 _, h.far, by have := set_row (set_row (set_row h.row 0 (.int .u64 u)) 1 (.int .u64 g)) 2 (.int .u64 v); simpa using this⟩
theorem Td.last {w W : World} {l : List (Array Value × TypeId)} (h : Lain w l W) (u g v : Int) : Td w l W.heap.size u g v (W.alloc (.cells #[.int .u64 u, .int .u64 g, .int .u64 v] 41)) :=
  ⟨h.then ((Old.refl _).alloc _), h.size, heap_alloc_last W _⟩
theorem Td.early {w x W : World} {l : List (Array Value × TypeId)} {u g v : Int} (h : Lain w l x) (ho : Old (x.alloc (.cells #[.int .u64 u, .int .u64 g, .int .u64 v] 41)) W) : Td w l x.heap.size u g v W := (Td.last h u g v).then ho

/-- Crossed by the first k secrets to the key z: of (u, v0). -/
structure Crs (P Q G z u v0 : Int) (X : Nat → Int) (k : Nat) (g v : Int) : Prop where
  g0 : U64 g
  v1 : U64 v
  gi : inI P Q g = true
  by_ : ∃ T : Nat, g % P = G ^ T % P ∧ v * u ^ sm X k % P = v0 * z ^ T % P
theorem Righ.crs {P Q G z u v0 : Int} (h : Righ P Q G) (X : Nat → Int) (hv : U64 v0) : Crs P Q G z u v0 X 0 1 v0 :=
  ⟨⟨by omega, by omega⟩, hv, h.one_in, 0, by rw [Int.pow_zero], by show v0 * u ^ 0 % P = v0 * z ^ 0 % P; rw [Int.pow_zero, Int.pow_zero]⟩
theorem Crs.cross {P Q G z u v0 d : Int} {X : Nat → Int} {k : Nat} {g v : Int} (s : Crs P Q G z u v0 X k g v) (h : Righ P Q G) (hu : inI P Q u = true) (hz : inI P Q z = true) (hX : 0 ≤ X k) (hd : 0 ≤ d) :
    Crs P Q G z u v0 X (k + 1) (mulI g (expI P Q G d) P) (mulI (overI P v (expI P Q u (X k))) (expI P Q z d) P) := by
  obtain ⟨T, hg, hv⟩ := s.by_
  refine ⟨u64_mul _ _ _, u64_mul _ _ _, h.mul_in s.gi (h.exp_in h.gin), T + d.toNat, ?_, ?_⟩
  · rw [mul_cong h.ok hg (h.exp_cong h.gin hd), Int.pow_add]
  · have e1 := mul_cong (x := overI P v (expI P Q u (X k))) (y := expI P Q z d) h.ok rfl (h.exp_cong hz hd)
    have e2 : overI P v (expI P Q u (X k)) * u ^ (X k).toNat % P = v % P := by
      rw [← h.over_cong (h.exp_in hu (e := X k)) v]
      exact cong_mul rfl (h.exp_cong hu hX).symm
    have e3 := cong_mul (c := u ^ sm X (k + 1)) (d := u ^ sm X (k + 1)) e1 rfl
    rw [e3, show sm X (k + 1) = sm X k + (X k).toNat from rfl, Int.pow_add]
    have e4 : overI P v (expI P Q u (X k)) * z ^ d.toNat * (u ^ sm X k * u ^ (X k).toNat) = overI P v (expI P Q u (X k)) * u ^ (X k).toNat * (u ^ sm X k * z ^ d.toNat) := by
      simp only [Int.mul_assoc, Int.mul_comm, Int.mul_left_comm]
    rw [e4, cong_mul (c := u ^ sm X k * z ^ d.toNat) (d := u ^ sm X k * z ^ d.toNat) e2 rfl, ← Int.mul_assoc, cong_mul (c := z ^ d.toNat) (d := z ^ d.toNat) hv rfl, Int.pow_add, Int.mul_assoc]
/-- Crossed by all secrets: sealed for z. -/
theorem Crs.sealed {P Q G m y z u v0 : Int} {X : Nat → Int} {k : Nat} {g v : Int} (s : Crs P Q G z u v0 X k g v) (h : Righ P Q G) (hX : ∀ i, i < k → 0 ≤ X i) (hy : y = prodI P (fun i => expI P Q G (X i)) k) (hs : Sld P Q G m y u v0) : Sld P Q G m z g v := by
  obtain ⟨T, hg, hv⟩ := s.by_
  obtain ⟨R, hu, hv0⟩ := hs.by_
  refine ⟨s.g0, s.v1, s.gi, T, hg, ?_⟩
  have hyS : y % P = G ^ sm X k % P := hy ▸ h.keys_cong h.gin X k hX
  -- the element that is cancelled
  have hin : inI P Q (prodI P (fun i => expI P Q u (X i)) k) = true := h.prod_in k fun i _ => h.exp_in hs.ui
  have hp := h.keys_cong hs.ui X k hX
  refine h.cancel hin ?_
  have f1 : v * prodI P (fun i => expI P Q u (X i)) k % P = v0 * z ^ T % P := (cong_mul (a := v) (b := v) rfl hp).trans hv
  have f2 : m * z ^ T * prodI P (fun i => expI P Q u (X i)) k % P = m * z ^ T * (G ^ R) ^ sm X k % P := cong_mul rfl (hp.trans (cong_pow hu _))
  have f3 : v0 * z ^ T % P = m * (G ^ sm X k) ^ R * z ^ T % P := cong_mul (hv0.trans (cong_mul rfl (cong_pow hyS R))) rfl
  rw [f1, f2, f3, ← Int.pow_mul, ← Int.pow_mul, Nat.mul_comm R, Int.mul_assoc, Int.mul_assoc, Int.mul_comm (z ^ T)]
/-- Opened by one secret. -/
theorem Sld.opens1 {P Q G m z g v x : Int} (s : Sld P Q G m z g v) (h : Righ P Q G) (hm : inI P Q m = true) (hx : 0 ≤ x) (hz : z = expI P Q G x) : overI P v (prodI P (fun _ => expI P Q g x) 1) = m := by
  obtain ⟨R, hu, hv⟩ := s.by_
  have e := h.keys_cong s.ui (fun _ => x) 1 fun _ _ => hx
  have hzc : z % P = G ^ sm (fun _ => x) 1 % P := by
    rw [hz, h.exp_cong h.gin hx]
    show _ = G ^ (0 + x.toNat) % P
    rw [Nat.zero_add]
  exact h.opens hm hu hv hzc e (h.prod_in 1 fun i _ => h.exp_in s.ui)

end Go.Proofs.Ythheogiiggiciad
