/-
  What a group that is right is: the squares modulo a prime (layer 4): from the plain functions to Gmath's.
-/
import Derived.Test.YtmmicbdjafolpaeGrig
namespace Go.Proofs.Ytmmicbdjafolpae
open Go.RowKit

/-- What Right says. -/
structure Righ (P Q G : Int) : Prop where
  two : P = 2 * Q + 1
  q0 : 5 ≤ Q
  q1 : Q < 2305843009213693952
  grp : Grp P.toNat Q.toNat
  gin : inI P Q G = true
  g1 : G ≠ 1

theorem right_righ {P Q G H : Int} {N A : Nat → Int} {F : Nat → Nat → Int} {L : Nat → Nat} {n : Nat} (hA : ∀ i, i < n → 0 ≤ A i) (h : rightI P Q G H N A F L n = true) : Righ P Q G := by
  unfold rightI at h
  simp only [Bool.and_eq_true, decide_eq_true_eq, beq_iff_eq] at h
  obtain ⟨⟨⟨⟨⟨⟨⟨⟨⟨h1, h2⟩, h3⟩, h4⟩, h5⟩, h6⟩, _⟩, h7⟩, _⟩, _⟩ := h
  obtain ⟨_, p, hp, pp, pf⟩ := proved_prim hA h4
  obtain ⟨_, q, hq, qp, _⟩ := proved_prim hA h5
  refine ⟨h3, h1, h2, ?_, h6, by simpa using h7⟩
  have e1 : P.toNat = p := by omega
  have e2 : Q.toNat = q := by omega
  rw [e1, e2]
  exact ⟨by omega, by omega, pp, qp, pf⟩

theorem Righ.ok {P Q G : Int} (h : Righ P Q G) : okM P = true := by
  have := h.two; have := h.q0; have := h.q1
  exact okM_of (by omega) (by omega)
theorem Righ.pow {P Q G : Int} (h : Righ P Q G) {x e : Int} (hx : 0 ≤ x) : powI x e P = ((x.toNat ^ e.toNat % P.toNat : Nat) : Int) := by
  have := h.two; have := h.q0
  rw [powI_yes h.ok, Int.natCast_emod, Int.natCast_pow, Int.toNat_of_nonneg hx, Int.toNat_of_nonneg (by omega)]
theorem Righ.elm {P Q G : Int} (h : Righ P Q G) {x : Int} (hx : 0 ≤ x) : inI P Q x = elm P.toNat Q.toNat x.toNat := by
  have h2 := h.two; have h5 := h.q0
  rw [Bool.eq_iff_iff, inI_iff, elm_iff, h.pow hx]
  omega
theorem Righ.lay {P Q G : Int} (h : Righ P Q G) {k : Int} (hk : 0 ≤ k) (hq : k < Q) : layI P Q k = (layN P.toNat Q.toNat k.toNat : Nat) := by
  have h2 := h.two; have h5 := h.q0; have h6 := h.q1
  have e := h.elm (x := k + 1) (by omega)
  rw [show (k + 1).toNat = k.toNat + 1 by omega] at e
  unfold layI layN
  rw [if_neg (by omega), e]
  split
  · omega
  · rw [Int.emod_eq_of_lt (by omega) (by omega)]
    omega
theorem Righ.back {P Q G : Int} (h : Righ P Q G) {x : Int} (hx : inI P Q x = true) : backI P Q x = (backN P.toNat Q.toNat x.toNat : Nat) := by
  have h2 := h.two; have h5 := h.q0; have h6 := h.q1
  obtain ⟨x0, x1, _⟩ := inI_iff.1 hx
  unfold backI backN
  rw [if_pos hx]
  by_cases hq : x ≤ Q
  · rw [if_pos hq, if_pos (by omega)]
    omega
  · rw [if_neg hq, if_neg (by omega), Int.emod_eq_of_lt (by omega) (by omega)]
    omega
/-- What is laid is an element, and is taken back. -/
theorem Righ.lay_back {P Q G : Int} (h : Righ P Q G) {k : Int} (hk : 0 ≤ k) (hq : k < Q) : inI P Q (layI P Q k) = true ∧ backI P Q (layI P Q k) = k := by
  have h1 : inI P Q (layI P Q k) = true := by
    rw [h.lay hk hq, h.elm (by omega)]
    exact h.grp.lay_in (by omega)
  refine ⟨h1, ?_⟩
  rw [h.back h1, h.lay hk hq, Int.toNat_natCast, h.grp.back_lay (by omega)]
  omega
/-- What is taken back is laid on it. -/
theorem Righ.back_lay {P Q G : Int} (h : Righ P Q G) {x : Int} (hx : inI P Q x = true) : 0 ≤ backI P Q x ∧ backI P Q x < Q ∧ layB Q (backI P Q x) = true ∧ layI P Q (backI P Q x) = x := by
  obtain ⟨x0, x1, _⟩ := inI_iff.1 hx
  have he : Go.Proofs.Ytmmicbdjafolpae.elm P.toNat Q.toNat x.toNat = true := by rw [← h.elm (by omega)]; exact hx
  have hl := h.grp.back_lt he
  have h0 : 0 ≤ backI P Q x := by rw [h.back hx]; omega
  have h1 : backI P Q x < Q := by rw [h.back hx]; omega
  refine ⟨h0, h1, by unfold layB; simp; omega, ?_⟩
  rw [h.lay h0 h1, h.back hx, Int.toNat_natCast, h.grp.lay_back he]
  omega
/-- Powers of G. -/
theorem Righ.powers {P Q G : Int} (h : Righ P Q G) {i j : Int} (hi : 0 ≤ i) (hij : i < j) (hj : j < Q) : expI P Q G i ≠ expI P Q G j := by
  have h2 := h.two; have h5 := h.q0
  obtain ⟨x0, x1, _⟩ := inI_iff.1 h.gin
  have he : Go.Proofs.Ytmmicbdjafolpae.elm P.toNat Q.toNat G.toNat = true := by rw [← h.elm (by omega)]; exact h.gin
  unfold expI
  rw [if_neg (by omega), if_neg (by omega), Int.emod_eq_of_lt hi (by omega), Int.emod_eq_of_lt (by omega) hj, h.pow (by omega), h.pow (by omega)]
  have := h.grp.powers he (by have := h.g1; omega) (i := i.toNat) (j := j.toNat) (by omega) (by omega)
  omega
theorem Righ.count {P Q G : Int} (h : Righ P Q G) : (cnt P.toNat Q.toNat P.toNat : Int) = Q := by
  have h5 := h.q0
  rw [h.grp.count]
  omega

end Go.Proofs.Ytmmicbdjafolpae
