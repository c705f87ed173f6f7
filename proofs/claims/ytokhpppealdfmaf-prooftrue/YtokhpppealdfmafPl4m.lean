/-
  What was made by a secret and draws, and what is claimed of it (layer 7).
-/
import Derived.Test.YtokhpppealdfmafPl1
import Derived.Test.YtokhpppealdfmafProw
namespace Go.Proofs.Ytokhpppealdfmaf
open Go.RowKit

theorem Righ.im_is {P Q G z : Int} (h : Righ P Q G) {B X : Nat → Int} (n : Nat) (hB : ∀ k, k < n → inI P Q (B k) = true) (hX : ∀ k, k < n → 0 ≤ X k) (hz : inI P Q z = true) (hc : pw B X n % P = z % P) : imI P Q B X n = z := h.same (h.im_in n hB) hz ((h.im_cong n hB hX).trans hc)

/-- A claim of few that holds for X. -/
structure GoodE (P Q : Int) (nt : Nat) (T : Nat → Int) (L : Nat → Nat) (B : Nat → Nat → Int) (nw : Nat) (X : Nat → Int) : Prop where
  cl : IsClaim P Q nt T nt L B nw
  im : ∀ j, j < nt → imI P Q (B j) X nw = T j
  f3 : nt ≤ 3
  w3 : nw ≤ 3
theorem GoodE.prov {P Q : Int} {nt : Nat} {T : Nat → Int} {L : Nat → Nat} {B : Nat → Nat → Int} {nw : Nat} {X : Nat → Int} (h : GoodE P Q nt T L B nw X) : provB (sizeN P Q nt T nt L B) nw nw = true := by
  unfold provB
  rw [h.cl.size, Bool.and_eq_true_iff]
  exact ⟨fitsB_iff.2 ⟨by have := h.cl.n1; omega, rfl⟩, by simp⟩
theorem GoodE.holds {P Q : Int} {nt : Nat} {T : Nat → Int} {L : Nat → Nat} {B : Nat → Nat → Int} {nw : Nat} {X : Nat → Int} (h : GoodE P Q nt T L B nw X) : holdsL P Q nt T nt L B nw X = true := by
  unfold holdsL
  rw [h.cl.size, Bool.and_eq_true_iff]
  exact ⟨fitsB_iff.2 ⟨by have := h.cl.n1; omega, rfl⟩, sameB_iff.2 ⟨rfl, h.im⟩⟩

theorem good_keeps {P Q G x : Int} (h : Righ P Q G) (hx : 0 ≤ x) : GoodE P Q 1 (fun _ => expI P Q G x) (fun _ => 1) (fun _ _ => G) 1 (fun _ => x) := by
  refine ⟨⟨by omega, by omega, rfl, by omega, by omega, fun _ _ => rfl, fun _ _ => h.exp_in h.gin, fun _ _ _ _ => h.gin⟩, fun j hj => ?_, by omega, by omega⟩
  refine h.im_is 1 (fun _ _ => h.gin) (fun _ _ => hx) (h.exp_in h.gin) ?_
  show (1 * G ^ x.toNat) % P = _
  rw [Int.one_mul, h.exp_cong h.gin hx]
theorem seal_u {P Q G r : Int} (h : Righ P Q G) (hr : 0 ≤ r) : inI P Q (mulI 1 (expI P Q G r) P) = true ∧ mulI 1 (expI P Q G r) P % P = G ^ r.toNat % P := by
  refine ⟨h.mul_in h.one_in (h.exp_in h.gin), ?_⟩
  rw [mul_cong h.ok rfl (h.exp_cong h.gin hr), Int.one_mul]
theorem row_in {P Q G : Int} (h : Righ P Q G) (j k : Nat) : inI P Q (rowAt G j k) = true := by
  unfold rowAt
  split
  · exact h.gin
  · exact h.one_in
theorem good_knows {P Q G r0 r1 r2 : Int} (h : Righ P Q G) (h0 : 0 ≤ r0) (h1 : 0 ≤ r1) (h2 : 0 ≤ r2) : GoodE P Q 3 (tri7 (mulI 1 (expI P Q G r0) P) (mulI 1 (expI P Q G r1) P) (mulI 1 (expI P Q G r2) P)) (fun _ => 3) (fun j => rowAt G j) 3 (tri7 r0 r1 r2) := by
  have u0 := seal_u h h0
  have u1 := seal_u h h1
  have u2 := seal_u h h2
  refine ⟨⟨by omega, by omega, rfl, by omega, by omega, fun _ _ => rfl, lt3 u0.1 u1.1 u2.1, fun j _ i _ => row_in h j i⟩, lt3 ?_ ?_ ?_, by omega, by omega⟩
  · refine h.im_is 3 (fun i _ => row_in h 0 i) (lt3 h0 h1 h2) u0.1 ?_
    show (1 * G ^ r0.toNat * 1 ^ r1.toNat * 1 ^ r2.toNat) % P = mulI 1 (expI P Q G r0) P % P
    rw [Int.one_pow, Int.one_pow, Int.mul_one, Int.mul_one, Int.one_mul, u0.2]
  · refine h.im_is 3 (fun i _ => row_in h 1 i) (lt3 h0 h1 h2) u1.1 ?_
    show (1 * 1 ^ r0.toNat * G ^ r1.toNat * 1 ^ r2.toNat) % P = mulI 1 (expI P Q G r1) P % P
    rw [Int.one_pow, Int.one_pow, Int.mul_one, Int.one_mul, Int.one_mul, u1.2]
  · refine h.im_is 3 (fun i _ => row_in h 2 i) (lt3 h0 h1 h2) u2.1 ?_
    show (1 * 1 ^ r0.toNat * 1 ^ r1.toNat * G ^ r2.toNat) % P = mulI 1 (expI P Q G r2) P % P
    rw [Int.one_pow, Int.one_pow, Int.one_mul, Int.one_mul, Int.one_mul, u2.2]
theorem good_shares {P Q G x u : Int} (h : Righ P Q G) (hx : 0 ≤ x) (hu : inI P Q u = true) : GoodE P Q 2 (two7 (expI P Q G x) (expI P Q u x)) (fun _ => 1) (two7r (fun _ => G) (fun _ => u)) 1 (fun _ => x) := by
  refine ⟨⟨by omega, by omega, rfl, by omega, by omega, fun _ _ => rfl, lt2 (h.exp_in h.gin) (h.exp_in hu), lt2 (p := fun j => ∀ i, i < 1 → inI P Q (two7r (fun _ => G) (fun _ => u) j i) = true) (fun _ _ => h.gin) (fun _ _ => hu)⟩, lt2 ?_ ?_, by omega, by omega⟩
  · refine h.im_is 1 (fun _ _ => h.gin) (fun _ _ => hx) (h.exp_in h.gin) ?_
    show (1 * G ^ x.toNat) % P = expI P Q G x % P
    rw [Int.one_mul, h.exp_cong h.gin hx]
  · refine h.im_is 1 (fun _ _ => hu) (fun _ _ => hx) (h.exp_in hu) ?_
    show (1 * u ^ x.toNat) % P = expI P Q u x % P
    rw [Int.one_mul, h.exp_cong hu hx]
theorem good_crosses {P Q G x z r u v : Int} (h : Righ P Q G) (hx : 0 ≤ x) (hr : 0 ≤ r) (hz : inI P Q z = true) (hu : inI P Q u = true) (hv : inI P Q v = true) :
    GoodE P Q 3 (tri7 (expI P Q G x) (overI P (mulI 1 (expI P Q G r) P) 1) (overI P (mulI (overI P v (expI P Q u x)) (expI P Q z r) P) v)) (fun _ => 2) (tri7r (two7 G 1) (two7 1 G) (two7 (overI P 1 u) z)) 2 (two7 x r) := by
  have e1 := seal_u h hr
  have hu1 : inI P Q (overI P 1 u) = true := h.over_in h.one_in hu
  have hO : inI P Q (overI P v (expI P Q u x)) = true := h.over_in hv (h.exp_in hu)
  have hV : inI P Q (mulI (overI P v (expI P Q u x)) (expI P Q z r) P) = true := h.mul_in hO (h.exp_in hz)
  have t1 : inI P Q (overI P (mulI 1 (expI P Q G r) P) 1) = true := h.over_in e1.1 h.one_in
  have t2 : inI P Q (overI P (mulI (overI P v (expI P Q u x)) (expI P Q z r) P) v) = true := h.over_in hV hv
  have b0 : ∀ k, k < 2 → inI P Q (two7 G 1 k) = true := lt2 h.gin h.one_in
  have b1 : ∀ k, k < 2 → inI P Q (two7 1 G k) = true := lt2 h.one_in h.gin
  have b2 : ∀ k, k < 2 → inI P Q (two7 (overI P 1 u) z k) = true := lt2 hu1 hz
  refine ⟨⟨by omega, by omega, rfl, by omega, by omega, fun _ _ => rfl, lt3 (h.exp_in h.gin) t1 t2, lt3 (p := fun j => ∀ i, i < 2 → inI P Q (tri7r (two7 G 1) (two7 1 G) (two7 (overI P 1 u) z) j i) = true) b0 b1 b2⟩, lt3 ?_ ?_ ?_, by omega, by omega⟩
  · refine h.im_is 2 b0 (lt2 hx hr) (h.exp_in h.gin) ?_
    show (1 * G ^ x.toNat * 1 ^ r.toNat) % P = expI P Q G x % P
    rw [Int.one_pow, Int.mul_one, Int.one_mul, h.exp_cong h.gin hx]
  · refine h.im_is 2 b1 (lt2 hx hr) t1 ?_
    show (1 * 1 ^ x.toNat * G ^ r.toNat) % P = overI P (mulI 1 (expI P Q G r) P) 1 % P
    have := h.over_cong h.one_in (mulI 1 (expI P Q G r) P)
    rw [Int.mul_one, e1.2] at this
    rw [Int.one_pow, Int.one_mul, Int.one_mul, this]
  · refine h.im_is 2 b2 (lt2 hx hr) t2 ?_
    show (1 * overI P 1 u ^ x.toNat * z ^ r.toNat) % P = overI P (mulI (overI P v (expI P Q u x)) (expI P Q z r) P) v % P
    refine h.cancel hv ?_
    rw [h.over_cong hv, Int.one_mul]
    -- V' is O * z^r
    have c1 := mul_cong (x := overI P v (expI P Q u x)) (y := expI P Q z r) h.ok rfl (h.exp_cong hz hr)
    rw [c1]
    -- v is O * u^x
    have c2 : overI P v (expI P Q u x) * u ^ x.toNat % P = v % P := by
      rw [← h.over_cong (h.exp_in hu (e := x)) v]
      exact cong_mul rfl (h.exp_cong hu hx).symm
    have c3 : (overI P 1 u * u) ^ x.toNat % P = 1 ^ x.toNat % P := cong_pow (h.over_cong hu 1) _
    generalize overI P v (expI P Q u x) = O at *
    generalize overI P 1 u = A at *
    have c4 : A ^ x.toNat * z ^ r.toNat * v % P = A ^ x.toNat * z ^ r.toNat * (O * u ^ x.toNat) % P := cong_mul rfl c2.symm
    rw [c4]
    have c5 : A ^ x.toNat * z ^ r.toNat * (O * u ^ x.toNat) = (A * u) ^ x.toNat * (O * z ^ r.toNat) := by
      rw [Int.mul_pow]
      simp only [Int.mul_assoc, Int.mul_comm, Int.mul_left_comm]
    rw [c5, cong_mul (c := O * z ^ r.toNat) (d := O * z ^ r.toNat) c3 rfl, Int.one_pow, Int.one_mul]

end Go.Proofs.Ytokhpppealdfmaf
