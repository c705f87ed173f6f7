/-
  The claim of one who mixed, row by row (layer 8).
  The claim of a talk as plain functions; that of one who mixed is one, and holds (layer 8).
  A claim that is being laid out (layer 8): what there is of it in memory.
  The methods of a claim that is being laid out (layer 8).
  What H is raised to last, and what takes the draws back (layer 8).
-/
import Derived.Test.YtlnmjbbpenhdbaaGreatKc08
import Derived.Test.YtlnmjbbpenhdbaaGreatKc09
import Derived.Deep.AppendLies
namespace Go.Proofs.YtlnmjbbpenhdbaaGreat
open Go.RowKit

/-- What one has who mixed, and the talk. -/
structure Mixd (P Q G H X Y Z y : Int) (n : Nat) (o : Nat → Nat) (R S T : Nat → Int) (Rho : Nat → Nat → Int) (A B Pp : Nat → Int) (Ui Vi Uo Vo : Nat → Nat → Int) : Prop where
  gr : Righ P Q G
  hin : inI P Q H = true
  yin : inI P Q y = true
  ord : Ord8 n o
  n1 : 0 < n
  y0 : 0 ≤ Y
  z0 : 0 ≤ Z
  r0 : ∀ i, i < n → 0 ≤ R i
  s0 : ∀ i, i < n → 0 ≤ S i
  t0 : ∀ i, i < n → 0 ≤ T i
  w0 : ∀ i, i < n → ∀ w, 0 ≤ Rho i w
  a : ∀ i, i < n → A i = comI P Q G H ((o i : Int) + 1) (R i)
  b : ∀ i, i < n → B i = comI P Q G H (bE Q X o i) (S i)
  p0 : Pp 0 = bigI P Q G (A 0) (B 0) Y Z
  p : ∀ i, i + 1 < n → Pp (i + 1) = mulI (expI P Q (Pp i) (dE Q X Y Z o (i + 1))) (expI P Q H (T (i + 1))) P
  ui : ∀ j, j < n → ∀ w, inI P Q (Ui j w) = true
  vi : ∀ j, j < n → ∀ w, inI P Q (Vi j w) = true
  uo : ∀ i, i < n → ∀ w, Uo i w = mulI (Ui (o i) w) (expI P Q G (Rho i w)) P
  vo : ∀ i, i < n → ∀ w, Vo i w = mulI (Vi (o i) w) (expI P Q y (Rho i w)) P

section
variable {P Q G H X Y Z y : Int} {n : Nat} {o : Nat → Nat} {R S T : Nat → Int} {Rho : Nat → Nat → Int} {A B Pp : Nat → Int} {Ui Vi Uo Vo : Nat → Nat → Int}

theorem mod_nn {a Q : Int} (hQ : 0 < Q) : 0 ≤ a % Q := Int.emod_nonneg _ (by omega)
theorem dE_sum {P G : Int} (h : Righ P Q G) (X Y Z : Int) (o : Nat → Nat) (i : Nat) : (dE Q X Y Z o i + Z) % Q = (Y * ((o i : Int) + 1) + bE Q X o i) % Q := by
  unfold dE
  rw [sub_back h.okq, addI_yes h.okq, mod_self, mulI_yes h.okq]
  exact cong_add (mod_self _ _) rfl
theorem uE_mod {P G : Int} (h : Righ P Q G) (Y : Int) (R S : Nat → Int) (i : Nat) : uE Q Y R S i % Q = (Y * R i + S i) % Q := by
  unfold uE
  rw [addI_yes h.okq, mod_self, mulI_yes h.okq]
  exact cong_add (mod_self _ _) rfl
theorem Mixd.rowA (m : Mixd P Q G H X Y Z y n o R S T Rho A B Pp Ui Vi Uo Vo) {i : Nat} (hi : i < n) : imI P Q (row28 i G (n + i) H) (exF Q X Y Z n o R S T Rho) (7 * n + 3) = A i := by
  have h := m.gr
  have c := h.com m.hin (m := (o i : Int) + 1) (r := R i) (by omega) (m.r0 i hi)
  rw [m.a i hi]
  refine h.row28 (by have := m.n1; omega) (by omega) h.gin m.hin (fun k => exF_nn h.q1' k) c.1 ?_
  rw [exF_a hi, exF_r hi, c.2]
  exact cong_mul (h.pow_mod h.gin (mod_nn h.q1') (by omega) (mod_self _ _)) (h.pow_mod m.hin (mod_nn h.q1') (m.r0 i hi) (mod_self _ _))
theorem Mixd.rowB (m : Mixd P Q G H X Y Z y n o R S T Rho A B Pp Ui Vi Uo Vo) {i : Nat} (hi : i < n) : imI P Q (row28 (2 * n + i) G (3 * n + i) H) (exF Q X Y Z n o R S T Rho) (7 * n + 3) = B i := by
  have h := m.gr
  have c := h.com m.hin (m := bE Q X o i) (r := S i) (pow_nn _ _ _) (m.s0 i hi)
  rw [m.b i hi]
  refine h.row28 (by have := m.n1; omega) (by omega) h.gin m.hin (fun k => exF_nn h.q1' k) c.1 ?_
  rw [exF_b hi, exF_s hi, c.2]
  exact cong_mul rfl (h.pow_mod m.hin (mod_nn h.q1') (m.s0 i hi) (mod_self _ _))
theorem Mixd.big (m : Mixd P Q G H X Y Z y n o R S T Rho A B Pp Ui Vi Uo Vo) {i : Nat} (hi : i < n) : inI P Q (bigI P Q G (A i) (B i) Y Z) = true ∧ bigI P Q G (A i) (B i) Y Z % P = G ^ (dE Q X Y Z o i).toNat * H ^ (uE Q Y R S i).toNat % P := by
  rw [m.a i hi, m.b i hi]
  exact m.gr.big m.hin (by omega) (m.r0 i hi) (pow_nn _ _ _) (m.s0 i hi) m.y0 m.z0 (subI_nn _ _ _) (addI_bd _ _ _).1 (dE_sum m.gr X Y Z o i) (uE_mod m.gr Y R S i)
theorem Mixd.rowD (m : Mixd P Q G H X Y Z y n o R S T Rho A B Pp Ui Vi Uo Vo) {i : Nat} (hi : i < n) : imI P Q (row28 (4 * n + i) G (5 * n + i) H) (exF Q X Y Z n o R S T Rho) (7 * n + 3) = bigI P Q G (A i) (B i) Y Z := by
  have h := m.gr
  have c := m.big hi
  refine h.row28 (by have := m.n1; omega) (by omega) h.gin m.hin (fun k => exF_nn h.q1' k) c.1 ?_
  rw [exF_d hi, exF_u hi, c.2]
theorem Mixd.pp (m : Mixd P Q G H X Y Z y n o R S T Rho A B Pp Ui Vi Uo Vo) : ∀ i, i < n → inI P Q (Pp i) = true ∧ Pp i % P = G ^ (pr (fun j => dE Q X Y Z o j) (i + 1)).toNat * H ^ (vE Q X Y Z o R S T i).toNat % P
  | 0, hi => by
    have c := m.big hi
    rw [m.p0]
    refine ⟨c.1, c.2.trans ?_⟩
    show _ = G ^ (1 * dE Q X Y Z o 0).toNat * H ^ (uE Q Y R S 0).toNat % P
    rw [Int.one_mul]
  | i + 1, hi => by
    have ih := Mixd.pp m i (by omega)
    rw [m.p i hi]
    have hd : 0 ≤ dE Q X Y Z o (i + 1) := subI_nn _ _ _
    exact m.gr.third m.hin ih.1 hd (m.t0 _ hi) (pr_nn (i + 1) fun j _ => subI_nn _ _ _) (vE_nn _ _ _ _ _ _ _ _ i) ih.2 (vE_nn _ _ _ _ _ _ _ _ (i + 1)) (by
      show addI (mulI (vE Q X Y Z o R S T i) (dE Q X Y Z o (i + 1)) Q) (T (i + 1)) Q % Q = _
      rw [addI_yes m.gr.okq, mod_self, mulI_yes m.gr.okq]
      exact cong_add (mod_self _ _) rfl)
theorem Mixd.rowP (m : Mixd P Q G H X Y Z y n o R S T Rho A B Pp Ui Vi Uo Vo) {i : Nat} (hi : i + 1 < n) : imI P Q (row28 (4 * n + (i + 1)) (Pp i) (6 * n + i) H) (exF Q X Y Z n o R S T Rho) (7 * n + 3) = Pp (i + 1) := by
  have h := m.gr
  have c0 := m.pp i (by omega)
  have c1 := m.pp (i + 1) hi
  refine h.row28 (by omega) (by omega) c0.1 m.hin (fun k => exF_nn h.q1' k) c1.1 ?_
  have hd : 0 ≤ dE Q X Y Z o (i + 1) := subI_nn _ _ _
  rw [exF_d hi, exF_t hi, m.p i hi, mul_cong h.ok (h.exp_cong c0.1 hd) (h.exp_cong m.hin (m.t0 _ hi))]
  exact cong_mul rfl (h.pow_mod m.hin (mod_nn h.q1') (m.t0 _ hi) (mod_self _ _))
theorem Mixd.rowL (m : Mixd P Q G H X Y Z y n o R S T Rho A B Pp Ui Vi Uo Vo) {B1 : Nat → Int} (hB : ∀ k, k < 7 * n + 3 → k ≠ 7 * n - 1 → B1 k = 1) (hH : B1 (7 * n - 1) = H) : imI P Q B1 (exF Q X Y Z n o R S T Rho) (7 * n + 3) = overI P (Pp (n - 1)) (expI P Q G (prodI Q (kF Q X Y Z) n)) := by
  have h := m.gr
  have hn := m.n1
  have c := m.pp (n - 1) (by omega)
  rw [show n - 1 + 1 = n by omega] at c
  have hpk := h.prod_order m.ord (kF Q X Y Z)
  have hl := h.last (k := prodI Q (kF Q X Y Z) n) c.1 (pr_nn n fun j _ => subI_nn _ _ _) (prodI_bd _ _ _).1 c.2 hpk
  refine h.row1 (p := 7 * n - 1) (by omega) hB (by rw [hH]; exact m.hin) (fun k _ => exF_nn h.q1' k) hl.1 ?_
  rw [hH, exF_v hn]
  exact hl.2
theorem pw_prod {P Q G : Int} (h : Righ P Q G) (U c : Nat → Int) : ∀ n, (∀ j, j < n → inI P Q (U j) = true) → (∀ j, j < n → 0 ≤ c j) → prodI P (fun j => expI P Q (U j) (c j)) n % P = pw U c n % P := fun n hU hc => h.im_cong n hU hc
theorem Mixd.rowU (m : Mixd P Q G H X Y Z y n o R S T Rho A B Pp Ui Vi Uo Vo) {w : Nat} (hw : w < 3) : imI P Q (rowS8 (2 * n) n (fun i => Uo i w) (7 * n + w) G) (exF Q X Y Z n o R S T Rho) (7 * n + 3) = prodI P (fun j => expI P Q (Ui j w) (powI X ((j : Int) + 1) Q)) n := by
  have h := m.gr
  have hn := m.n1
  have hUo : ∀ i, i < n → inI P Q (Uo i w) = true := fun i hi => by rw [m.uo i hi]; exact h.mul_in (m.ui _ (m.ord.lt i hi) w) (h.exp_in h.gin)
  refine h.rowS8 (by omega) (by omega) hUo h.gin (fun k => exF_nn h.q1' k) (h.prod_in n fun j hj => h.exp_in (m.ui j hj w)) ?_
  rw [pw_prod h (fun j => Ui j w) (fun j => powI X ((j : Int) + 1) Q) n (fun j hj => m.ui j hj w) (fun j _ => pow_nn _ _ _), exF_w hn, pw_congr n (fun i hi => ⟨rfl, exF_b hi⟩)]
  refine h.mixed h.gin m.ord (U := fun j => Ui j w) (c := fun j => powI X ((j : Int) + 1) Q) (fun j _ => pow_nn _ _ _) (fun i hi => m.w0 i hi w) (fun i hi => ?_) (rhoE_nn _ _ _ _ _ _) (rhoE_sum h o Rho w n)
  rw [m.uo i hi]
  exact mul_cong h.ok rfl (h.exp_cong h.gin (m.w0 i hi w))
theorem Mixd.rowV (m : Mixd P Q G H X Y Z y n o R S T Rho A B Pp Ui Vi Uo Vo) {w : Nat} (hw : w < 3) : imI P Q (rowS8 (2 * n) n (fun i => Vo i w) (7 * n + w) y) (exF Q X Y Z n o R S T Rho) (7 * n + 3) = prodI P (fun j => expI P Q (Vi j w) (powI X ((j : Int) + 1) Q)) n := by
  have h := m.gr
  have hn := m.n1
  have hVo : ∀ i, i < n → inI P Q (Vo i w) = true := fun i hi => by rw [m.vo i hi]; exact h.mul_in (m.vi _ (m.ord.lt i hi) w) (h.exp_in m.yin)
  refine h.rowS8 (by omega) (by omega) hVo m.yin (fun k => exF_nn h.q1' k) (h.prod_in n fun j hj => h.exp_in (m.vi j hj w)) ?_
  rw [pw_prod h (fun j => Vi j w) (fun j => powI X ((j : Int) + 1) Q) n (fun j hj => m.vi j hj w) (fun j _ => pow_nn _ _ _), exF_w hn, pw_congr n (fun i hi => ⟨rfl, exF_b hi⟩)]
  refine h.mixed m.yin m.ord (U := fun j => Vi j w) (c := fun j => powI X ((j : Int) + 1) Q) (fun j _ => pow_nn _ _ _) (fun i hi => m.w0 i hi w) (fun i hi => ?_) (rhoE_nn _ _ _ _ _ _) (rhoE_sum h o Rho w n)
  rw [m.vo i hi]
  exact mul_cong h.ok rfl (h.exp_cong m.yin (m.w0 i hi w))

end
end Go.Proofs.YtlnmjbbpenhdbaaGreat

namespace Go.Proofs.YtlnmjbbpenhdbaaGreat
open Go.RowKit

/-- A row with x at p, else 1. -/
def row18 (p : Nat) (x : Int) : Nat → Int := fun k => if k = p then x else 1
theorem row18_in {P Q G x : Int} (h : Righ P Q G) {p : Nat} (hx : inI P Q x = true) (k : Nat) : inI P Q (row18 p x k) = true := by
  unfold row18
  split
  · exact hx
  · exact h.one_in

section
variable (n : Nat) (A B D Pp : Nat → Int) (last : Int) (UV : Nat → Int) (G H y : Int) (Uo Vo : Nat → Nat → Int)
/-- The targets. -/
def tgt8 (j : Nat) : Int :=
  if j < n then A j else if j < 2 * n then B (j - n) else if j < 3 * n then D (j - 2 * n) else if j < 4 * n - 1 then Pp (j - 3 * n + 1) else if j = 4 * n - 1 then last else UV (j - 4 * n)
/-- The rows. -/
def bas8 (j : Nat) : Nat → Int :=
  if j < n then row28 j G (n + j) H
  else if j < 2 * n then row28 (2 * n + (j - n)) G (3 * n + (j - n)) H
  else if j < 3 * n then row28 (4 * n + (j - 2 * n)) G (5 * n + (j - 2 * n)) H
  else if j < 4 * n - 1 then row28 (4 * n + (j - 3 * n + 1)) (Pp (j - 3 * n)) (6 * n + (j - 3 * n)) H
  else if j = 4 * n - 1 then row18 (7 * n - 1) H
  else if (j - 4 * n) % 2 = 0 then rowS8 (2 * n) n (fun i => Uo i ((j - 4 * n) / 2)) (7 * n + (j - 4 * n) / 2) G
  else rowS8 (2 * n) n (fun i => Vo i ((j - 4 * n) / 2)) (7 * n + (j - 4 * n) / 2) y
end
/-- The targets of U and V. -/
def uvI (P Q X : Int) (n : Nat) (Ui Vi : Nat → Nat → Int) (e : Nat) : Int :=
  if e % 2 = 0 then prodI P (fun j => expI P Q (Ui j (e / 2)) (powI X ((j : Int) + 1) Q)) n else prodI P (fun j => expI P Q (Vi j (e / 2)) (powI X ((j : Int) + 1) Q)) n
/-- The last target of P. -/
def lastI (P Q G X Y Z : Int) (n : Nat) (p : Int) : Int := overI P p (expI P Q G (prodI Q (kF Q X Y Z) n))
/-- The targets of a talk. -/
def tgtT (P Q G X Y Z : Int) (n : Nat) (A B Pp : Nat → Int) (Ui Vi : Nat → Nat → Int) : Nat → Int :=
  tgt8 n A B (fun i => bigI P Q G (A i) (B i) Y Z) Pp (lastI P Q G X Y Z n (Pp (n - 1))) (uvI P Q X n Ui Vi)

theorem row28_in {P Q G x z : Int} (h : Righ P Q G) {p q : Nat} (hx : inI P Q x = true) (hz : inI P Q z = true) (k : Nat) : inI P Q (row28 p x q z k) = true := by
  unfold row28
  split
  · exact hx
  · split
    · exact hz
    · exact h.one_in
theorem rowS8_in {P Q G z : Int} (h : Righ P Q G) {m n q : Nat} {W : Nat → Int} (hW : ∀ i, i < n → inI P Q (W i) = true) (hz : inI P Q z = true) (k : Nat) : inI P Q (rowS8 m n W q z k) = true := by
  unfold rowS8
  split
  · exact hW _ (by omega)
  · split
    · exact hz
    · exact h.one_in

/-- What there is of a talk for there to be a claim: elements all. -/
structure Elms (P Q G H y : Int) (n : Nat) (A B Pp : Nat → Int) (Ui Vi Uo Vo : Nat → Nat → Int) : Prop where
  gr : Righ P Q G
  hin : inI P Q H = true
  yin : inI P Q y = true
  n1 : 0 < n
  n8 : n ≤ 8
  a : ∀ i, i < n → inI P Q (A i) = true
  b : ∀ i, i < n → inI P Q (B i) = true
  p : ∀ i, i < n → inI P Q (Pp i) = true
  ui : ∀ j, j < n → ∀ w, w < 3 → inI P Q (Ui j w) = true
  vi : ∀ j, j < n → ∀ w, w < 3 → inI P Q (Vi j w) = true
  uo : ∀ j, j < n → ∀ w, w < 3 → inI P Q (Uo j w) = true
  vo : ∀ j, j < n → ∀ w, w < 3 → inI P Q (Vo j w) = true
section
variable {P Q G H X Y Z y : Int} {n : Nat} {A B Pp : Nat → Int} {Ui Vi Uo Vo : Nat → Nat → Int}
theorem Elms.big (m : Elms P Q G H y n A B Pp Ui Vi Uo Vo) (Y Z : Int) {i : Nat} (hi : i < n) : inI P Q (bigI P Q G (A i) (B i) Y Z) = true :=
  m.gr.over_in (m.gr.mul_in (m.gr.exp_in (m.a i hi)) (m.b i hi)) (m.gr.exp_in m.gr.gin)
theorem Elms.uv (m : Elms P Q G H y n A B Pp Ui Vi Uo Vo) (X : Int) {e : Nat} (he : e < 6) : inI P Q (uvI P Q X n Ui Vi e) = true := by
  unfold uvI
  split
  · exact m.gr.prod_in n fun j hj => m.gr.exp_in (m.ui j hj _ (by omega))
  · exact m.gr.prod_in n fun j hj => m.gr.exp_in (m.vi j hj _ (by omega))
theorem Elms.tgt (m : Elms P Q G H y n A B Pp Ui Vi Uo Vo) (X Y Z : Int) {j : Nat} (hj : j < 4 * n + 6) : inI P Q (tgtT P Q G X Y Z n A B Pp Ui Vi j) = true := by
  have hn := m.n1
  unfold tgtT tgt8
  repeat' split
  · exact m.a _ (by omega)
  · exact m.b _ (by omega)
  · exact m.big _ _ (by omega)
  · exact m.p _ (by omega)
  · exact m.gr.over_in (m.p _ (by omega)) (m.gr.exp_in m.gr.gin)
  · exact m.uv X (by omega)
theorem Elms.bas (m : Elms P Q G H y n A B Pp Ui Vi Uo Vo) {j : Nat} (hj : j < 4 * n + 6) (k : Nat) : inI P Q (bas8 n Pp G H y Uo Vo j k) = true := by
  have hn := m.n1
  unfold bas8
  repeat' split
  · exact row28_in m.gr m.gr.gin m.hin k
  · exact row28_in m.gr m.gr.gin m.hin k
  · exact row28_in m.gr m.gr.gin m.hin k
  · exact row28_in m.gr (m.p _ (by omega)) m.hin k
  · exact row18_in m.gr m.hin k
  · exact rowS8_in m.gr (fun i hi => m.uo i hi _ (by omega)) m.gr.gin k
  · exact rowS8_in m.gr (fun i hi => m.vo i hi _ (by omega)) m.yin k
/-- **It is a claim.** -/
theorem Elms.claim (m : Elms P Q G H y n A B Pp Ui Vi Uo Vo) (X Y Z : Int) : IsClaim P Q (4 * n + 6) (tgtT P Q G X Y Z n A B Pp Ui Vi) (4 * n + 6) (fun _ => 7 * n + 3) (bas8 n Pp G H y Uo Vo) (7 * n + 3) :=
  ⟨by omega, by have := m.n8; omega, rfl, by omega, by have := m.n8; omega, fun _ _ => rfl, fun j hj => m.tgt X Y Z hj, fun j hj i _ => m.bas hj i⟩
end

section
variable {P Q G H X Y Z y : Int} {n : Nat} {o : Nat → Nat} {R S T : Nat → Int} {Rho : Nat → Nat → Int} {A B Pp : Nat → Int} {Ui Vi Uo Vo : Nat → Nat → Int}
theorem Mixd.elms (m : Mixd P Q G H X Y Z y n o R S T Rho A B Pp Ui Vi Uo Vo) (hn : n ≤ 8) : Elms P Q G H y n A B Pp Ui Vi Uo Vo := by
  have h := m.gr
  refine ⟨h, m.hin, m.yin, m.n1, hn, fun i hi => ?_, fun i hi => ?_, fun i hi => (m.pp i hi).1, fun j hj w _ => m.ui j hj w, fun j hj w _ => m.vi j hj w, fun i hi w _ => ?_, fun i hi w _ => ?_⟩
  · rw [m.a i hi]; exact (h.com m.hin (by omega) (m.r0 i hi)).1
  · rw [m.b i hi]; exact (h.com m.hin (pow_nn _ _ _) (m.s0 i hi)).1
  · rw [m.uo i hi]; exact h.mul_in (m.ui _ (m.ord.lt i hi) w) (h.exp_in h.gin)
  · rw [m.vo i hi]; exact h.mul_in (m.vi _ (m.ord.lt i hi) w) (h.exp_in m.yin)
/-- **The claim of one who mixed holds for their exponents.** -/
theorem Mixd.holds (m : Mixd P Q G H X Y Z y n o R S T Rho A B Pp Ui Vi Uo Vo) {j : Nat} (hj : j < 4 * n + 6) : imI P Q (bas8 n Pp G H y Uo Vo j) (exF Q X Y Z n o R S T Rho) (7 * n + 3) = tgtT P Q G X Y Z n A B Pp Ui Vi j := by
  have hn := m.n1
  unfold bas8 tgtT tgt8
  by_cases h1 : j < n
  · rw [if_pos h1, if_pos h1]
    exact m.rowA h1
  rw [if_neg h1, if_neg h1]
  by_cases h2 : j < 2 * n
  · rw [if_pos h2, if_pos h2]
    exact m.rowB (by omega)
  rw [if_neg h2, if_neg h2]
  by_cases h3 : j < 3 * n
  · rw [if_pos h3, if_pos h3]
    exact m.rowD (by omega)
  rw [if_neg h3, if_neg h3]
  by_cases h4 : j < 4 * n - 1
  · rw [if_pos h4, if_pos h4]
    exact m.rowP (by omega)
  rw [if_neg h4, if_neg h4]
  by_cases h5 : j = 4 * n - 1
  · rw [if_pos h5, if_pos h5]
    exact m.rowL (fun k _ hk => if_neg hk) (if_pos rfl)
  rw [if_neg h5, if_neg h5]
  unfold uvI
  by_cases h6 : (j - 4 * n) % 2 = 0
  · rw [if_pos h6, if_pos h6]
    exact m.rowU (by omega)
  · rw [if_neg h6, if_neg h6]
    exact m.rowV (by omega)
end

end Go.Proofs.YtlnmjbbpenhdbaaGreat

namespace Go.Proofs.YtlnmjbbpenhdbaaGreat
open Go.RowKit
set_option linter.unusedSimpArgs false
set_option linter.unusedVariables false

theorem own_oth8 {w : World} {base : Nat} {e : TypeId} {size : Nat} {v : Value} {n : Nat} {xs : List Value} (h : w.ownsRow base e size v n xs) {p : Addr} (hne : v.ownBlock ≠ some p.block) (u : Value) : (w.setCell p u).ownsRow base e size v n xs := by
  refine ⟨h.1, ?_⟩
  rcases h.2 with h2 | ⟨g, cap, cur, hv, hb, hg, r⟩
  · exact Or.inl h2
  · refine Or.inr ⟨g, cap, cur, hv, hb, ?_, r⟩
    rw [Below.heap_setCell w p u g (fun he => hne (by rw [hv, ← he]; rfl))]
    exact hg
/-- Targets and rows that were made behind the block s; blocks beside them that stay as they are. -/
structure Ly (W : World) (s N : Nat) (Ks : List (Nat × Obj)) (T : Nat → Int) (Bs : Nat → Nat → Int) (i k : Nat) (v u : Value) (bk : Nat → Nat) (wx : World) : Prop where
  old : Old W wx
  ws : W.heap.size ≤ s
  big : s + 1 ≤ wx.heap.size
  nums : Nums wx (s + 1) v i T
  own : wx.ownsRow (s + 1) 29 1 u k ((List.range k).map fun j => Value.slice (some ⟨bk j, 0, none⟩) N N)
  full : ∀ j, j < k → s + 1 ≤ bk j ∧ Full wx (bk j) N (Bs j)
  inj : ∀ i j, i < k → j < k → bk i = bk j → i = j
  s1 : ∀ j, j < k → v.ownBlock ≠ some (bk j)
  s2 : ∀ j, j < k → u.ownBlock ≠ some (bk j)
  s3 : v.ownBlock = none ∨ u.ownBlock ≠ v.ownBlock
  prot : ∀ e, e ∈ Ks → wx.heap[e.1]? = some e.2 ∧ e.1 ≠ s ∧ v.ownBlock ≠ some e.1 ∧ u.ownBlock ≠ some e.1 ∧ ∀ j, j < k → bk j ≠ e.1
section
variable {W w wx w' : World} {s N : Nat} {Ks : List (Nat × Obj)} {T : Nat → Int} {Bs : Nat → Nat → Int} {i k : Nat} {v u : Value} {bk : Nat → Nat}
theorem obj_lt {b : Nat} {o : Obj} (h : w.heap[b]? = some o) : b < w.heap.size := (Array.getElem?_eq_some_iff.1 h).1
theorem Ly.old' (h : Ly W s N Ks T Bs i k v u bk wx) (ho : Old wx w') : Ly W s N Ks T Bs i k v u bk w' :=
  ⟨h.old.trans ho, h.ws, Nat.le_trans h.big ho.size, h.nums.old ho, own_old h.own ho, fun j hj => ⟨(h.full j hj).1, (h.full j hj).2.old ho⟩, h.inj, h.s1, h.s2, h.s3, fun e he => by
    obtain ⟨h1, h2⟩ := h.prot e he
    exact ⟨(ho.block _ (obj_lt h1)).trans h1, h2⟩⟩
theorem Ly.set (h : Ly W s N Ks T Bs i k v u bk wx) (j : Nat) (x : Value) : Ly W s N Ks T Bs i k v u bk (wx.setCell ⟨s, j, none⟩ x) :=
  ⟨h.old.setCell (p := ⟨s, j, none⟩) h.ws _, h.ws, by have := h.big; simpa using this, ownsRow_setCell_below h.nums (Nat.lt_succ_self _) _, ownsRow_setCell_below h.own (Nat.lt_succ_self _) _, fun j' hj => ⟨(h.full j' hj).1, (h.full j' hj).2.other (by have := (h.full j' hj).1; show bk j' ≠ s; omega) _⟩, h.inj, h.s1, h.s2, h.s3, fun e he => by
    obtain ⟨h1, h2, h3⟩ := h.prot e he
    exact ⟨(Below.heap_setCell _ _ _ _ h2).trans h1, h2, h3⟩⟩
theorem Ly.tgt {g cap : Nat} {x : Int} (h : Ly W s N Ks T Bs i k v u bk w) (hx : T i = x) (hown : w'.ownsRow (s + 1) 22 1 (.slice (some ⟨g, 0, none⟩) (i + 1) cap) (i + 1) ((List.range i).map (fun j => Value.int .u64 (T j)) ++ [.int .u64 x])) (hg : w.grownBy w' v.ownBlock) (hat : v.ownBlock = some g ∨ g = w.heap.size) : Ly W s N Ks T Bs (i + 1) k (.slice (some ⟨g, 0, none⟩) (i + 1) cap) u bk w' := by
  have hu := World.ownsRow.lt h.own
  refine ⟨h.old.grown hg fun b hb => ?_, h.ws, Nat.le_trans h.big hg.size, Nums.app hown hx, h.own.kept hg ?_, fun j hj => ⟨(h.full j hj).1, (h.full j hj).2.grown hg (h.s1 j hj)⟩, h.inj, fun j hj he => ?_, h.s2, Or.inr fun he => ?_, fun e he => ?_⟩
  · have := (World.ownsRow.lt h.nums b hb).1; have := h.ws; omega
  · rcases h.s3 with h3 | h3
    · rw [h3]; cases hx : u.ownBlock
      · exact Or.inl rfl
      · exact Or.inr (by simp)
    · exact Or.inr h3
  · have he' : g = bk j := by simpa [Value.ownBlock] using he
    rcases hat with h1 | h1
    · exact h.s1 j hj (by rw [h1, he'])
    · have := (h.full j hj).2.lt; omega
  · have he' : u.ownBlock = some g := he
    rcases hat with h1 | h1
    · rcases h.s3 with h3 | h3
      · rw [h3] at h1; cases h1
      · exact h3 (by rw [he', h1])
    · have := (hu g he').2; omega
  · obtain ⟨h1, h2, h3, h4, h5⟩ := h.prot e he
    refine ⟨(hg.block _ (obj_lt h1) (Ne.symm h3)).trans h1, h2, fun hc => ?_, h4, h5⟩
    have hc' : g = e.1 := by simpa [Value.ownBlock] using hc
    rcases hat with h6 | h6
    · exact h3 (by rw [h6, hc'])
    · have := obj_lt h1; omega
theorem Ly.bas {b g cap : Nat} (h : Ly W s N Ks T Bs i k v u bk w) (hb : s + 1 ≤ b) (hF : Full w b N (Bs k)) (hvb : v.ownBlock ≠ some b) (hub : u.ownBlock ≠ some b) (hnb : ∀ j, j < k → bk j ≠ b) (hkb : ∀ e, e ∈ Ks → b ≠ e.1) (hown : w'.ownsRow (s + 1) 29 1 (.slice (some ⟨g, 0, none⟩) (k + 1) cap) (k + 1) ((List.range k).map (fun j => Value.slice (some ⟨bk j, 0, none⟩) N N) ++ [.slice (some ⟨b, 0, none⟩) N N])) (hg : w.grownBy w' u.ownBlock) (hat : u.ownBlock = some g ∨ g = w.heap.size) :
    Ly W s N Ks T Bs i (k + 1) v (.slice (some ⟨g, 0, none⟩) (k + 1) cap) (fun j => if j = k then b else bk j) w' := by
  have hv := World.ownsRow.lt h.nums
  refine ⟨h.old.grown hg fun c hc => ?_, h.ws, Nat.le_trans h.big hg.size, World.ownsRow.kept h.nums hg ?_, ?_, fun j hj => ?_, fun p q hp hq he => ?_, fun j hj he => ?_, fun j hj he => ?_, ?_, fun e he => ?_⟩
  · have := (World.ownsRow.lt h.own c hc).1; have := h.ws; omega
  · rcases h.s3 with h3 | h3
    · exact Or.inl h3
    · exact Or.inr (Ne.symm h3)
  · have e : (List.range (k + 1)).map (fun j => Value.slice (some ⟨if j = k then b else bk j, 0, none⟩) N N) = (List.range k).map (fun j => Value.slice (some ⟨bk j, 0, none⟩) N N) ++ [.slice (some ⟨b, 0, none⟩) N N] := by
      rw [List.range_succ, List.map_append]
      congr 1
      · refine List.map_congr_left fun j hj => ?_
        have := List.mem_range.1 hj
        rw [if_neg (by omega)]
      · simp
    rw [e]
    exact hown
  · by_cases hjk : j = k
    · subst hjk
      simp only [if_true]
      exact ⟨hb, hF.grown hg hub⟩
    · rw [if_neg hjk]
      exact ⟨(h.full j (by omega)).1, (h.full j (by omega)).2.grown hg (h.s2 j (by omega))⟩
  · by_cases h1 : p = k
    · by_cases h2 : q = k
      · omega
      · rw [if_pos h1, if_neg h2] at he
        exact absurd he.symm (hnb q (by omega))
    · by_cases h2 : q = k
      · rw [if_neg h1, if_pos h2] at he
        exact absurd he (hnb p (by omega))
      · rw [if_neg h1, if_neg h2] at he
        exact h.inj p q (by omega) (by omega) he
  · by_cases hjk : j = k
    · subst hjk
      simp only [if_true] at he
      exact hvb he
    · rw [if_neg hjk] at he
      exact h.s1 j (by omega) he
  · have he' : g = if j = k then b else bk j := by simpa [Value.ownBlock] using he
    by_cases hjk : j = k
    · rw [if_pos hjk] at he'
      rcases hat with h1 | h1
      · exact hub (by rw [h1, he'])
      · have := hF.lt; omega
    · rw [if_neg hjk] at he'
      rcases hat with h1 | h1
      · exact h.s2 j (by omega) (by rw [h1, he'])
      · have := (h.full j (by omega)).2.lt; omega
  · cases hvo : v.ownBlock with
    | none => exact Or.inl rfl
    | some c =>
      refine Or.inr fun he => ?_
      have he' : g = c := by simpa [Value.ownBlock] using he
      have hc := (hv c hvo).2
      rcases hat with h1 | h1
      · rcases h.s3 with h3 | h3
        · rw [h3] at hvo; cases hvo
        · exact h3 (by rw [h1, hvo, he'])
      · omega
  · obtain ⟨h1, h2, h3, h4, h5⟩ := h.prot e he
    refine ⟨(hg.block _ (obj_lt h1) (Ne.symm h4)).trans h1, h2, h3, fun hc => ?_, fun j hj => ?_⟩
    · have hc' : g = e.1 := by simpa [Value.ownBlock] using hc
      rcases hat with h6 | h6
      · exact h4 (by rw [h6, hc'])
      · have := obj_lt h1; omega
    · by_cases hjk : j = k
      · rw [if_pos hjk]; exact hkb e he
      · rw [if_neg hjk]; exact h5 j (by omega)
/-- A cell of a row is set. -/
theorem Ly.cell (h : Ly W s N Ks T Bs i k v u bk w) {r p : Nat} (hr : r < k) (x : Int) : Ly W s N Ks T (fun j => if j = r then (fun q => if q = p then x else Bs r q) else Bs j) i k v u bk (w.setCell ⟨bk r, p, none⟩ (.int .u64 x)) := by
  have hb := (h.full r hr).1
  have hg : (w.setCell ⟨bk r, p, none⟩ (.int .u64 x)).heap.size = w.heap.size := by simp
  refine ⟨h.old.setCell (p := ⟨bk r, p, none⟩) (by have := h.ws; show W.heap.size ≤ bk r; omega) _, h.ws, by rw [hg]; exact h.big, own_oth8 h.nums (p := ⟨bk r, p, none⟩) (h.s1 r hr) _, own_oth8 h.own (p := ⟨bk r, p, none⟩) (h.s2 r hr) _, fun j hj => ?_, h.inj, h.s1, h.s2, h.s3, fun e he => ?_⟩
  · by_cases hjr : j = r
    · subst hjr
      rw [if_pos rfl]
      exact ⟨hb, (h.full j hj).2.set p x⟩
    · rw [if_neg hjr]
      exact ⟨(h.full j hj).1, (h.full j hj).2.other (p := ⟨bk r, p, none⟩) (fun hc => hjr (h.inj j r hj hr hc)) _⟩
  · obtain ⟨h1, h2, h3, h4, h5⟩ := h.prot e he
    exact ⟨(Below.heap_setCell _ ⟨bk r, p, none⟩ _ _ (Ne.symm (h5 r hr))).trans h1, h2, h3, h4, h5⟩
theorem Ly.congr {Bs' : Nat → Nat → Int} (h : Ly W s N Ks T Bs i k v u bk w) (he : ∀ j, j < k → ∀ q, q < N → Bs j q = Bs' j q) : Ly W s N Ks T Bs' i k v u bk w :=
  ⟨h.old, h.ws, h.big, h.nums, h.own, fun j hj => ⟨(h.full j hj).1, (h.full j hj).2.congr (he j hj)⟩, h.inj, h.s1, h.s2, h.s3, h.prot⟩
theorem Ly.less {Ks' : List (Nat × Obj)} (h : Ly W s N Ks T Bs i k v u bk w) (he : ∀ e, e ∈ Ks' → e ∈ Ks) : Ly W s N Ks' T Bs i k v u bk w :=
  ⟨h.old, h.ws, h.big, h.nums, h.own, h.full, h.inj, h.s1, h.s2, h.s3, fun e hm => h.prot e (he e hm)⟩
theorem Ly.more (h : Ly W s N Ks T Bs i k v u bk w) (o : Obj) : Ly W s N ((w.heap.size, o) :: Ks) T Bs i k v u bk (w.alloc o) := by
  have h' := h.old' ((Old.refl _).alloc o)
  refine ⟨h'.old, h'.ws, h'.big, h'.nums, h'.own, h'.full, h.inj, h.s1, h.s2, h.s3, fun e he => ?_⟩
  rcases List.mem_cons.1 he with rfl | he
  · refine ⟨heap_alloc_new w o, by have := h.big; show w.heap.size ≠ s; omega, fun hc => ?_, fun hc => ?_, fun j hj hc => ?_⟩
    · have := (World.ownsRow.lt h.nums _ hc).2; exact Nat.lt_irrefl _ this
    · have := (World.ownsRow.lt h.own _ hc).2; exact Nat.lt_irrefl _ this
    · have := (h.full j hj).2.lt; rw [hc] at this; exact Nat.lt_irrefl _ this
  · exact h'.prot e he
end

/-- The claim that is being laid out, in its variable. -/
structure LayS (W : World) (s n : Nat) (Ks : List (Nat × Obj)) (T : Nat → Int) (Bs : Nat → Nat → Int) (k : Nat) (v u : Value) (bk : Nat → Nat) (wx : World) : Prop where
  ly : Ly W s (7 * n + 3) Ks T Bs k k v u bk wx
  row : wx.heap[s]? = some (.cells #[.int .i64 (n : Int), v, u] 109 (0, 0))
section
variable {W w wx w' : World} {s n : Nat} {Ks : List (Nat × Obj)} {T : Nat → Int} {Bs : Nat → Nat → Int} {k : Nat} {v u : Value} {bk : Nat → Nat}
theorem LayS.old' (h : LayS W s n Ks T Bs k v u bk wx) (ho : Old wx w') : LayS W s n Ks T Bs k v u bk w' := ⟨h.ly.old' ho, (ho.block _ h.ly.big).trans h.row⟩
theorem LayS.congr {Bs' : Nat → Nat → Int} (h : LayS W s n Ks T Bs k v u bk w) (he : ∀ j, j < k → ∀ q, q < 7 * n + 3 → Bs j q = Bs' j q) : LayS W s n Ks T Bs' k v u bk w := ⟨h.ly.congr he, h.row⟩
theorem LayS.less {Ks' : List (Nat × Obj)} (h : LayS W s n Ks T Bs k v u bk w) (he : ∀ e, e ∈ Ks' → e ∈ Ks) : LayS W s n Ks' T Bs k v u bk w := ⟨h.ly.less he, h.row⟩
theorem LayS.more (h : LayS W s n Ks T Bs k v u bk w) (o : Obj) : LayS W s n ((w.heap.size, o) :: Ks) T Bs k v u bk (w.alloc o) := ⟨h.ly.more o, (((Old.refl w).alloc o).block _ h.ly.big).trans h.row⟩
theorem LayS.cell (h : LayS W s n Ks T Bs k v u bk w) {r p : Nat} (hr : r < k) (x : Int) : LayS W s n Ks T (fun j => if j = r then (fun q => if q = p then x else Bs r q) else Bs j) k v u bk (w.setCell ⟨bk r, p, none⟩ (.int .u64 x)) :=
  ⟨h.ly.cell hr x, (Below.heap_setCell _ ⟨bk r, p, none⟩ _ _ (by have := (h.ly.full r hr).1; show s ≠ bk r; omega)).trans h.row⟩
end

end Go.Proofs.YtlnmjbbpenhdbaaGreat

namespace Go.Proofs.YtlnmjbbpenhdbaaGreat
open Go.RowKit
set_option linter.unusedSimpArgs false
set_option linter.unusedVariables false

theorem ret_int8 {a b : Int} (h : a = b) : Ending.returned (.int .i64 a) = .returned (.int .i64 b) := by rw [h]

set_option maxHeartbeats 1000000 in
theorem lm_r (s n i : Nat) (v u : Value) (w : World) (hn : n ≤ 8) (hi : i ≤ 100) (h : w.heap[s]? = some (.cells #[.int .i64 (n : Int), v, u] 109 (0, 0))) : Calls Tryz.prog 115 #[.pointer (some ⟨s, 0, none⟩), .int .i64 (i : Int)] w (Ret w (.int .i64 ((n + i : Nat) : Int))) := by
  have c0 : w.cell? ⟨s, 0, none⟩ = some (.int .i64 (n : Int)) := cell_of_row _ _ 0 _ _ (0, 0) h
  clear h
  go_enter Tryz.func115, Tryz.ntmps115
  go_wp2_with fail
  go_ret
  exact ⟨ret_int8 (by omega), Old.refl _⟩

set_option maxHeartbeats 1000000 in
theorem lm_b (s n i : Nat) (v u : Value) (w : World) (hn : n ≤ 8) (hi : i ≤ 100) (h : w.heap[s]? = some (.cells #[.int .i64 (n : Int), v, u] 109 (0, 0))) : Calls Tryz.prog 116 #[.pointer (some ⟨s, 0, none⟩), .int .i64 (i : Int)] w (Ret w (.int .i64 ((2 * n + i : Nat) : Int))) := by
  have c0 : w.cell? ⟨s, 0, none⟩ = some (.int .i64 (n : Int)) := cell_of_row _ _ 0 _ _ (0, 0) h
  clear h
  go_enter Tryz.func116, Tryz.ntmps116
  go_wp2_with fail
  go_ret
  exact ⟨ret_int8 (by omega), Old.refl _⟩

set_option maxHeartbeats 1000000 in
theorem lm_s (s n i : Nat) (v u : Value) (w : World) (hn : n ≤ 8) (hi : i ≤ 100) (h : w.heap[s]? = some (.cells #[.int .i64 (n : Int), v, u] 109 (0, 0))) : Calls Tryz.prog 117 #[.pointer (some ⟨s, 0, none⟩), .int .i64 (i : Int)] w (Ret w (.int .i64 ((3 * n + i : Nat) : Int))) := by
  have c0 : w.cell? ⟨s, 0, none⟩ = some (.int .i64 (n : Int)) := cell_of_row _ _ 0 _ _ (0, 0) h
  clear h
  go_enter Tryz.func117, Tryz.ntmps117
  go_wp2_with fail
  go_ret
  exact ⟨ret_int8 (by omega), Old.refl _⟩

set_option maxHeartbeats 1000000 in
theorem lm_d (s n i : Nat) (v u : Value) (w : World) (hn : n ≤ 8) (hi : i ≤ 100) (h : w.heap[s]? = some (.cells #[.int .i64 (n : Int), v, u] 109 (0, 0))) : Calls Tryz.prog 118 #[.pointer (some ⟨s, 0, none⟩), .int .i64 (i : Int)] w (Ret w (.int .i64 ((4 * n + i : Nat) : Int))) := by
  have c0 : w.cell? ⟨s, 0, none⟩ = some (.int .i64 (n : Int)) := cell_of_row _ _ 0 _ _ (0, 0) h
  clear h
  go_enter Tryz.func118, Tryz.ntmps118
  go_wp2_with fail
  go_ret
  exact ⟨ret_int8 (by omega), Old.refl _⟩

set_option maxHeartbeats 1000000 in
theorem lm_u (s n i : Nat) (v u : Value) (w : World) (hn : n ≤ 8) (hi : i ≤ 100) (h : w.heap[s]? = some (.cells #[.int .i64 (n : Int), v, u] 109 (0, 0))) : Calls Tryz.prog 119 #[.pointer (some ⟨s, 0, none⟩), .int .i64 (i : Int)] w (Ret w (.int .i64 ((5 * n + i : Nat) : Int))) := by
  have c0 : w.cell? ⟨s, 0, none⟩ = some (.int .i64 (n : Int)) := cell_of_row _ _ 0 _ _ (0, 0) h
  clear h
  go_enter Tryz.func119, Tryz.ntmps119
  go_wp2_with fail
  go_ret
  exact ⟨ret_int8 (by omega), Old.refl _⟩

set_option maxHeartbeats 1000000 in
theorem lm_t (s n i : Nat) (v u : Value) (w : World) (hn : n ≤ 8) (hi : i ≤ 100) (h : w.heap[s]? = some (.cells #[.int .i64 (n : Int), v, u] 109 (0, 0))) : Calls Tryz.prog 120 #[.pointer (some ⟨s, 0, none⟩), .int .i64 (i : Int)] w (Ret w (.int .i64 ((6 * n + i : Nat) : Int))) := by
  have c0 : w.cell? ⟨s, 0, none⟩ = some (.int .i64 (n : Int)) := cell_of_row _ _ 0 _ _ (0, 0) h
  clear h
  go_enter Tryz.func120, Tryz.ntmps120
  go_wp2_with fail
  go_ret
  exact ⟨ret_int8 (by omega), Old.refl _⟩

set_option maxHeartbeats 1000000 in
theorem lm_rho (s n i : Nat) (v u : Value) (w : World) (hn : n ≤ 8) (hi : i ≤ 100) (h : w.heap[s]? = some (.cells #[.int .i64 (n : Int), v, u] 109 (0, 0))) : Calls Tryz.prog 123 #[.pointer (some ⟨s, 0, none⟩), .int .i64 (i : Int)] w (Ret w (.int .i64 ((7 * n + i : Nat) : Int))) := by
  have c0 : w.cell? ⟨s, 0, none⟩ = some (.int .i64 (n : Int)) := cell_of_row _ _ 0 _ _ (0, 0) h
  clear h
  go_enter Tryz.func123, Tryz.ntmps123
  go_wp2_with fail
  go_ret
  exact ⟨ret_int8 (by omega), Old.refl _⟩

set_option maxHeartbeats 1000000 in
theorem lm_tLast (s n : Nat) (v u : Value) (w : World) (h1 : 0 < n) (hn : n ≤ 8) (h : w.heap[s]? = some (.cells #[.int .i64 (n : Int), v, u] 109 (0, 0))) : Calls Tryz.prog 122 #[.pointer (some ⟨s, 0, none⟩)] w (Ret w (.int .i64 ((7 * n - 1 : Nat) : Int))) := by
  have c0 : w.cell? ⟨s, 0, none⟩ = some (.int .i64 (n : Int)) := cell_of_row _ _ 0 _ _ (0, 0) h
  clear h
  go_enter Tryz.func122, Tryz.ntmps122
  go_wp2_with fail
  go_ret
  exact ⟨ret_int8 (by omega), Old.refl _⟩

theorem lm_a (s i : Nat) (w : World) : Calls Tryz.prog 114 #[.pointer (some ⟨s, 0, none⟩), .int .i64 (i : Int)] w (Ret w (.int .i64 (i : Int))) := by
  go_enter Tryz.func114, Tryz.ntmps114
  go_wp2_with fail
  go_ret
  exact ⟨rfl, Old.refl _⟩
theorem ssize_any (n : Nat) (w : World) (hn : n ≤ 80) : Calls Tryz.prog 125 #[.int .i64 (n : Int)] w (Ret w (.int .i64 ((7 * n + 3 : Nat) : Int))) := by
  go_enter Tryz.func125, Tryz.ntmps125
  go_wp2_with fail
  go_ret
  exact ⟨ret_int8 (by omega), Old.refl _⟩

/-- Rows laid so far, and the next one, of ones. -/
def ones8 (B : Nat → Nat → Int) (k : Nat) : Nat → Nat → Int := fun j => if j < k then B j else fun _ => 1
set_option maxRecDepth 100000 in
set_option maxHeartbeats 8000000 in
theorem ladd_any (W : World) (s n : Nat) (Ks : List (Nat × Obj)) (T : Nat → Int) (B : Nat → Nat → Int) (k : Nat) (v u : Value) (bk : Nat → Nat) (x : Int) (w : World) (hn : n ≤ 8) (hk : k ≤ 100) (hx : T k = x) (h : LayS W s n Ks T B k v u bk w) :
    Calls Tryz.prog 113 #[.pointer (some ⟨s, 0, none⟩), .int .u64 x] w fun e w' => ∃ v' u' b, e = .returned (.slice (some ⟨b, 0, none⟩) (7 * n + 3) (7 * n + 3)) ∧ LayS W s n Ks T (ones8 B k) (k + 1) v' u' (fun j => if j = k then b else bk j) w' := by
  have HL : Hid (LayS W s n Ks T B k v u bk w) := h
  have c0 : w.cell? ⟨s, 0, none⟩ = some (.int .i64 (n : Int)) := cell_of_row _ _ 0 _ _ (0, 0) h.row
  have HX : Hid (T k = x) := hx
  obtain ⟨N, hN⟩ : ∃ N, N = 7 * n + 3 := ⟨_, rfl⟩
  have HS : Hid (∀ wx, Calls Tryz.prog 125 #[.int .i64 (n : Int)] wx (Ret wx (.int .i64 (N : Int)))) := fun wx => by rw [hN]; exact ssize_any n wx (by omega)
  have hN8 : N ≤ 80 := by omega
  have HNe : Hid (N = 7 * n + 3) := hN
  clear h hx hN
  have hmk := make_run N hN8
  obtain ⟨i0, hi0, hz0, hz1, hz2⟩ := info_parts u64info
  obtain ⟨i1, hi1, hy0, hy1, hy2⟩ := info_parts slinfo
  go_enter Tryz.func113, Tryz.ntmps113
  go_upto_region 2 with (go_at_call 125; refine (HS.out _).mono ?_; rintro e w1 ⟨rfl, o1⟩)
  have HF0 := full_zero w1 N (fun _ => 1)
  have HW1 : Hid (Old w (w1.alloc (.cells (madeCells #[Value.int .u64 0] N) 22))) := o1.alloc _
  have hb1 : w.heap.size ≤ w1.heap.size := o1.size
  clear c0 o1
  generalize w1.alloc (.cells (madeCells #[Value.int .u64 0] N) 22) = W1 at *
  generalize w1.heap.size = b at *
  go_upto_region 3 with fail
  go_loopw [15] (fun iv wx => ∃ i : Nat, iv = .int .i64 (i : Int) ∧ i ≤ N ∧ Hid (Full wx b N (upTo i (fun _ => 1))) ∧ Hid (Old w wx)) (fun iv _ => N - (intOf iv).toNat)
  case atStart => exact ⟨0, rfl, Nat.zero_le _, HF0, HW1⟩
  case round =>
    obtain ⟨i, rfl, hi, HN, HO⟩ := hrel
    by_cases hlt : i < N
    · have q0 := HN.out.cell i hlt
      have f0 := HN.out.free i
      have HG : Hid (Full (wr.setCell ⟨b, i, none⟩ (.int .u64 1)) b N (upTo (i + 1) (fun _ => 1))) := HN.out.next
      have HG2 : Hid (Old w (wr.setCell ⟨b, i, none⟩ (.int .u64 1))) := HO.out.setCell hb1 _
      go_wp2_with fail
      go_roundw
      case rel => exact ⟨i + 1, idx_next i, by omega, HG, HG2⟩
      case measure => simp [intOf]; omega
    · have he : N = i := by omega
      subst he
      have HD : Hid (Full wr b N (fun _ => 1)) := HN.out.done
      have HL1 : Hid (LayS W s n Ks T B k v u bk wr) := HL.out.old' HO.out
      have hrow := HL1.out.row
      have HM : Hid (v.ownBlock ≠ some b ∧ u.ownBlock ≠ some b ∧ (∀ j, j < k → bk j ≠ b) ∧ (∀ e, e ∈ Ks → b ≠ e.1) ∧ s + 1 ≤ b) := by
        have hl := HL.out.ly
        refine ⟨fun he => ?_, fun he => ?_, fun j hj he => ?_, fun e hm he => ?_, ?_⟩
        · have := (World.ownsRow.lt hl.nums b he).2; omega
        · have := (World.ownsRow.lt hl.own b he).2; omega
        · have := (hl.full j hj).2.lt; omega
        · have := obj_lt (hl.prot e hm).1; omega
        · have := hl.big; omega
      have c1 : wr.cell? ⟨s, 1, none⟩ = some v := cell_of_row _ _ 1 _ _ (0, 0) hrow
      have hs8 := HL1.out.ly.big
      clear hrow HN HL HF0 HO HW1
      have HF1 : Hid (Full wr b N (fun _ => 1)) := HD
      have HLo : Hid (LayS W s n Ks T (ones8 B k) k v u bk wr) := HL1.out.congr fun j hj q _ => by unfold ones8; rw [if_pos hj]
      have hBk : ones8 B k k = fun _ => 1 := by unfold ones8; rw [if_neg (Nat.lt_irrefl k)]
      have HFo : Hid (Full wr b N (ones8 B k k)) := by unfold Hid; rw [hBk]; exact HF1.out
      obtain ⟨Bo, hBo⟩ : ∃ Bo, Bo = ones8 B k := ⟨_, rfl⟩
      rw [← hBo] at HLo HFo
      have HBo : Hid (Bo = ones8 B k) := hBo
      clear hBo hBk
      obtain ⟨hly, hrw⟩ := HLo.out
      rw [← HNe.out] at hly
      have HA : Hid (Ly W s N Ks T Bo k k v u bk wr) := hly
      have HAr : Hid (wr.heap[s]? = some (.cells #[.int .i64 (n : Int), v, u] 109 (0, 0))) := hrw
      clear HD HF1 HL1 HLo hly hrw HS hmk
      go_wp2_with (at_builtin; refine wpList_append_lies _ rfl _ _ 29 rfl (s + 1) 22 i0 (.int .u64 0) 1 8 Tryz.underlying29 hi0 hz0 hz1 hz2 rfl (by decide) _ _ _ rfl (World.ownsRow.alloc HA.out.nums _) ⟨wr.heap.size, 0, none⟩ 1 1 [.int .u64 x] rfl rfl ?c1 ?c2 (by decide) ?c3 ?c4 ?c5 _ rfl ?_)
      case c1 => exact cell_one_new _ _ _
      case c2 => intro u hu; simp at hu; subst hu; rfl
      case c3 => unfold maxLen; omega
      case c4 => omega
      case c5 => simp; omega
      intro g5 cap5 w5 hown5 hgrow5 hat5 _
      have HB : Hid (Ly W s N Ks T Bo (k + 1) k (.slice (some ⟨g5, 0, none⟩) (k + 1) cap5) u bk w5) := (HA.out.old' ((Old.refl _).alloc _)).tgt HX.out hown5 hgrow5 (by simpa using hat5)
      have HFb : Hid (Full w5 b N (Bo k)) := (HFo.out.old ((Old.refl _).alloc _)).grown hgrow5 HM.out.1
      have HBr : Hid (w5.heap[s]? = some (.cells #[.int .i64 (n : Int), v, u] 109 (0, 0))) := by
        unfold Hid
        rw [hgrow5.block s (by simp; omega) (fun e => by have := (World.ownsRow.lt HA.out.nums _ e.symm).1; omega), Below.heap_alloc _ _ _ (by omega)]
        exact HAr.out
      have hvb : Hid ((Value.slice (some ⟨g5, 0, none⟩) (k + 1) cap5).ownBlock ≠ some b) := by
        intro he
        have he' : g5 = b := by simpa [Value.ownBlock] using he
        rcases hat5 with h1 | h1
        · exact HM.out.1 (by rw [h1, he'])
        · have := HFo.out.lt; first | omega | (simp at h1; omega)
      clear hown5 hgrow5 hat5 HA HAr c1 hs8 HFo
      have q0 : w5.cell? ⟨s, 1, none⟩ = some v := cell_of_row _ _ 1 _ _ (0, 0) HBr.out
      have f0 : w5.frozen? ⟨s, 1, none⟩ = false := row_frozen HBr.out 1
      go_upto_region 8 with fail
      have HC : Hid (Ly W s N Ks T Bo (k + 1) k (.slice (some ⟨g5, 0, none⟩) (k + 1) cap5) u bk (w5.setCell ⟨s, 1, none⟩ (.slice (some ⟨g5, 0, none⟩) (k + 1) cap5))) := HB.out.set 1 _
      have HFc : Hid (Full (w5.setCell ⟨s, 1, none⟩ (.slice (some ⟨g5, 0, none⟩) (k + 1) cap5)) b N (Bo k)) := HFb.out.other (p := ⟨s, 1, none⟩) (by have := HM.out.2.2.2.2; show b ≠ s; omega) _
      have HCr : Hid ((w5.setCell ⟨s, 1, none⟩ (.slice (some ⟨g5, 0, none⟩) (k + 1) cap5)).heap[s]? = some (.cells #[.int .i64 (n : Int), .slice (some ⟨g5, 0, none⟩) (k + 1) cap5, u] 109 (0, 0))) := by have := set_row HBr.out 1 (.slice (some ⟨g5, 0, none⟩) (k + 1) cap5); unfold Hid; simpa using this
      clear HB HFb HBr q0 f0
      generalize w5.setCell ⟨s, 1, none⟩ (.slice (some ⟨g5, 0, none⟩) (k + 1) cap5) = w6 at *
      have c2 : w6.cell? ⟨s, 2, none⟩ = some u := cell_of_row _ _ 2 _ _ (0, 0) HCr.out
      have hs6 : s + 1 ≤ w6.heap.size := HC.out.big
      go_wp2_with (at_builtin; refine wpList_append_lies _ rfl _ _ 48 rfl (s + 1) 29 i1 (.slice none 0 0) 1 24 Tryz.underlying48 hi1 hy0 hy1 hy2 rfl (by decide) _ _ _ rfl (World.ownsRow.alloc HC.out.own _) ⟨w6.heap.size, 0, none⟩ 1 1 [.slice (some ⟨b, 0, none⟩) N N] rfl rfl ?c1 ?c2 (by decide) ?c3 ?c4 ?c5 _ rfl ?_)
      case c1 => exact cell_one_new _ _ _
      case c2 => intro x hx; simp at hx; subst hx; rfl
      case c3 => unfold maxLen; omega
      case c4 => omega
      case c5 => simp; omega
      intro g8 cap8 w8 hown8 hgrow8 hat8 _
      have HD : Hid (Ly W s N Ks T Bo (k + 1) (k + 1) (.slice (some ⟨g5, 0, none⟩) (k + 1) cap5) (.slice (some ⟨g8, 0, none⟩) (k + 1) cap8) (fun j => if j = k then b else bk j) w8) := (HC.out.old' ((Old.refl _).alloc _)).bas HM.out.2.2.2.2 (HFc.out.old ((Old.refl _).alloc _)) hvb.out HM.out.2.1 HM.out.2.2.1 HM.out.2.2.2.1 hown8 hgrow8 (by simpa using hat8)
      have HDr : Hid (w8.heap[s]? = some (.cells #[.int .i64 (n : Int), .slice (some ⟨g5, 0, none⟩) (k + 1) cap5, u] 109 (0, 0))) := by
        unfold Hid
        rw [hgrow8.block s (by simp; omega) (fun e => by have := (World.ownsRow.lt HC.out.own _ e.symm).1; omega), Below.heap_alloc _ _ _ (by omega)]
        exact HCr.out
      clear hown8 hgrow8 hat8 HC HCr c2 hs6 HFc
      have q1 : w8.cell? ⟨s, 2, none⟩ = some u := cell_of_row _ _ 2 _ _ (0, 0) HDr.out
      have f1 : w8.frozen? ⟨s, 2, none⟩ = false := row_frozen HDr.out 2
      have HE : Hid (LayS W s n Ks T Bo (k + 1) (.slice (some ⟨g5, 0, none⟩) (k + 1) cap5) (.slice (some ⟨g8, 0, none⟩) (k + 1) cap8) (fun j => if j = k then b else bk j) (w8.setCell ⟨s, 2, none⟩ (.slice (some ⟨g8, 0, none⟩) (k + 1) cap8))) := ⟨by have := HD.out.set 2 (.slice (some ⟨g8, 0, none⟩) (k + 1) cap8); rwa [HNe.out] at this, by have := set_row HDr.out 2 (.slice (some ⟨g8, 0, none⟩) (k + 1) cap8); simpa using this⟩
      clear HD HDr
      go_wp2_with fail
      go_ret
      refine ⟨.slice (some ⟨g5, 0, none⟩) (k + 1) cap5, .slice (some ⟨g8, 0, none⟩) (k + 1) cap8, b, by rw [← HNe.out]; rfl, ?_⟩
      rw [← HBo.out]
      exact HE.out

end Go.Proofs.YtlnmjbbpenhdbaaGreat

namespace Go.Proofs.YtlnmjbbpenhdbaaGreat
open Go.RowKit
set_option linter.unusedSimpArgs false
set_option linter.unusedVariables false

/-- v of a place. -/
def hidI (Q : Int) (F : Nat → Int) (v : Int) (T : Nat → Int) : Nat → Int
  | 0 => v
  | i + 1 => addI (mulI (hidI Q F v T i) (F (i + 1)) Q) (T (i + 1)) Q
theorem hid_u64 {Q v : Int} (hv : U64 v) (F T : Nat → Int) : ∀ i, U64 (hidI Q F v T i)
  | 0 => hv
  | _ + 1 => u64_add _ _ _
/-- What takes back the draws of a place. -/
def bakI (Q : Int) (B : Nat → Int) (R : Nat → Nat → Int) (w : Nat) : Nat → Int
  | 0 => 0
  | i + 1 => subI (bakI Q B R w i) (mulI (B i) (R i w) Q) Q
theorem u64_sub (a b m : Int) : U64 (subI a b m) := ⟨(subI_bd _ _ _).1, Int.le_trans (subI_bd _ _ _).2 (by decide)⟩
theorem bak_u64 (Q : Int) (B : Nat → Int) (R : Nat → Nat → Int) (w : Nat) : ∀ i, U64 (bakI Q B R w i)
  | 0 => ⟨by show (0 : Int) ≤ 0; omega, by show (0 : Int) ≤ _; omega⟩
  | _ + 1 => u64_sub _ _ _

set_option maxRecDepth 100000 in
set_option maxHeartbeats 4000000 in
theorem slast_any (P Q G H : Int) (a : Option Addr) (n cap : Nat) (b1 : Option Addr) (m c1 : Nat) (F : Nat → Int) (v0 : Int) (b2 : Option Addr) (m2 c2 : Nat) (T : Nat → Int) (w : World) (m0 : 0 < m) (mm : m ≤ 80) (h2 : m ≤ m2) (hv : U64 v0) (h : FacsIn w b1 m F) (hT : FacsIn w b2 m2 T) :
    Calls Tryz.prog 75 #[gv P Q G H a n cap, .slice b1 m c1, .int .u64 v0, .slice b2 m2 c2] w (Ret w (.int .u64 (hidI Q F v0 T (m - 1)))) := by
  have HF : Hid (FacsIn w b1 m F) := h
  have HTT : Hid (FacsIn w b2 m2 T) := hT
  have HZ := lain1 w (gc P Q G H a n cap) 25
  have HG0 := fun w' ho => (HZ.then (W' := w') ho).row 0 (by simp)
  have HW0 : Hid (Old w (w.alloc (.cells (gc P Q G H a n cap) 25))) := HZ.old
  clear HZ h hT
  go_enter Tryz.func75, Tryz.ntmps75
  go_upto_region 1 with fail
  generalize w.alloc (.cells (gc P Q G H a n cap) 25) = W at *
  have HG : Hid (∀ wx, Old W wx → wx.heap[w.heap.size]? = some (.cells (gc P Q G H a n cap) 25 (0, 0))) := HG0
  clear HG0
  go_upto_region 3 with fail
  go_loopw [9, 10] (fun v iv wx => ∃ i : Nat, iv = .int .i64 ((i + 1 : Nat) : Int) ∧ i + 1 ≤ m ∧ v = .int .u64 (hidI Q F v0 T i) ∧ Hid (Old W wx)) (fun _ iv _ => m - (intOf iv).toNat)
  case atStart => exact ⟨0, rfl, by omega, rfl, Old.refl _⟩
  case round =>
    obtain ⟨i, rfl, hi, rfl, HO⟩ := hrel
    by_cases hlt : i + 1 < m
    · rcases HF.out with h0 | ⟨bx, ox, rfl, _, hrx⟩
      · omega
      rcases HTT.out with h0 | ⟨by_, oy, rfl, _, hry⟩
      · omega
      have HA : ∀ wx, Old wr wx → wx.cell? ⟨bx, ox + (i + 1), none⟩ = some (.int .u64 (F (i + 1))) := fun wx hx => ((HW0.out.trans HO.out).trans hx).cellOf (hrx (i + 1) hlt).1
      have HB : ∀ wx, Old wr wx → wx.cell? ⟨by_, oy + (i + 1), none⟩ = some (.int .u64 (T (i + 1))) := fun wx hx => ((HW0.out.trans HO.out).trans hx).cellOf (hry (i + 1) (by omega)).1
      have HGr : ∀ wx, Old wr wx → wx.heap[w.heap.size]? = some (.cells (gc P Q G H a n cap) 25 (0, 0)) := fun wx hx => HG.out _ (HO.out.trans hx)
      have HAu : Hid (U64 (F (i + 1))) := (hrx (i + 1) hlt).2
      have HBu : Hid (U64 (T (i + 1))) := (hry (i + 1) (by omega)).2
      clear hrx hry
      go_upto_region 5 with fail
      refine wp_region_tab 15 [.k (.int .u64 (hidI Q F v0 T i)), .k (.slice (some ⟨bx, ox, none⟩) m c1), .k (.int .i64 ((i + 1 : Nat) : Int)), .k (.pointer (some ⟨bx, ox + (i + 1), none⟩)), .k (.int .u64 (F (i + 1))), .k (.pointer (some ⟨w.heap.size, 1, none⟩)), .k (.int .u64 Q), .k (.int .u64 (mulI (hidI Q F v0 T i) (F (i + 1)) Q)), .k (.slice (some ⟨by_, oy, none⟩) m2 c2), .k (.int .i64 ((i + 1 : Nat) : Int)), .k (.pointer (some ⟨by_, oy + (i + 1), none⟩)), .k (.int .u64 (T (i + 1))), .k (.pointer (some ⟨w.heap.size, 1, none⟩)), .k (.int .u64 Q), .k (.int .u64 (hidI Q F v0 T (i + 1)))] (Old wr) (by kernel_rfl) (by kernel_rfl) rfl ((Old.refl _).drew) ?st ?_
      case st =>
        refine .c stp <|
          .c stp <|
          .c stp <|
          .c (sti (n := m) (c := c1) (i := i + 1) hlt Tryz.underlying29) <|
          .c (stl Tryz.underlying22 HA) <|
          .c stp <|
          .c (stf 1 Tryz.underlying22 HGr) <|
          .c (stK old_R Tryz.func72 (fun wx _ => smul_any _ _ Q (hid_u64 hv F T i) HAu.out wx)) <|
          .c stp <|
          .c stp <|
          .c (sti (n := m2) (c := c2) (i := i + 1) (by omega) Tryz.underlying29) <|
          .c (stl Tryz.underlying22 HB) <|
          .c stp <|
          .c (stf 1 Tryz.underlying22 HGr) <|
          .c (stK old_R Tryz.func71 (fun wx _ => sadd_any _ _ Q (u64_mul _ _ _) HBu.out wx)) .n
      intro t wx hR hk
      simp only [fill, Ent.val, List.set_cons_zero, List.set_cons_succ, List.drop_succ_cons, List.drop_zero, List.drop_nil]
      have HO2 : Hid (Old W wx) := HO.out.trans hR
      clear hR hk HA HB HGr
      go_wp2_with fail
      go_roundw
      case rel => exact ⟨i + 1, by simp, by omega, rfl, HO2⟩
      case measure => simp [intOf]; omega
    · obtain ⟨q, rfl⟩ : ∃ q, m = q + 1 := ⟨m - 1, by omega⟩
      have he : q = i := by omega
      subst he
      go_wp2_with fail
      go_ret
      exact ⟨rfl, HW0.out.trans HO.out⟩

set_option maxRecDepth 100000 in
set_option maxHeartbeats 4000000 in
theorem sback_any (P Q G H : Int) (a : Option Addr) (n cap : Nat) (b1 : Option Addr) (m c1 : Nat) (B : Nat → Int) (b2 : Option Addr) (m2 c2 : Nat) (Rh : Nat → Nat → Int) (w : World) (mm : m ≤ 80) (h2 : m ≤ m2) (h : FacsIn w b1 m B) (hR0 : RhoIn w b2 m2 Rh) :
    Calls Tryz.prog 76 #[gv P Q G H a n cap, .slice b1 m c1, .slice b2 m2 c2] w (GivF w 3 (fun k => bakI Q B Rh k m)) := by
  have HB : Hid (FacsIn w b1 m B) := h
  have HRh : Hid (RhoIn w b2 m2 Rh) := hR0
  have HZ := lain1 w (gc P Q G H a n cap) 25
  have HG0 := fun w' ho => (HZ.then (W' := w') ho).row 0 (by simp)
  have HW0 : Hid (Old w (w.alloc (.cells (gc P Q G H a n cap) 25))) := HZ.old
  clear HZ h hR0
  obtain ⟨F, hF⟩ : ∃ F : Nat → Nat → Int, F = fun i k => bakI Q B Rh k i := ⟨_, rfl⟩
  have HFe : Hid (∀ i k, F i k = bakI Q B Rh k i) := fun i k => by rw [hF]
  have e0 : (fun k => bakI Q B Rh k m) = F m := by rw [hF]
  rw [e0]
  clear e0 hF
  have hmk : ∀ wx, (Instr.makeSlice 29 (.int .i64 3) (.int .i64 3)).run Tryz.prog wx = .ok (.slice (some ⟨wx.heap.size, 0, none⟩) 3 3) (wx.alloc (.cells (madeCells #[Value.int .u64 0] 3) 22)) := make_run 3 (by omega)
  go_enter Tryz.func76, Tryz.ntmps76
  go_upto_region 1 with fail
  generalize w.alloc (.cells (gc P Q G H a n cap) 25) = W at *
  have HG : Hid (∀ wx, Old W wx → wx.heap[w.heap.size]? = some (.cells (gc P Q G H a n cap) 25 (0, 0))) := HG0
  clear HG0
  go_upto_region 2 with fail
  have HFu := full_zero W 3 (F m)
  have HW1 : Hid (Old W (W.alloc (.cells (madeCells #[Value.int .u64 0] 3) 22))) := (Old.refl W).alloc _
  generalize W.alloc (.cells (madeCells #[Value.int .u64 0] 3) 22) = W1 at *
  go_upto_region 3 with fail
  go_loopw [14] (fun iv wx => ∃ q : Nat, iv = .int .i64 (q : Int) ∧ q ≤ 3 ∧ Hid (Full wx W.heap.size 3 (upTo q (F m))) ∧ Hid (Old W wx)) (fun iv _ => 3 - (intOf iv).toNat)
  case atStart => exact ⟨0, rfl, Nat.zero_le _, HFu, HW1⟩
  case round =>
    obtain ⟨q, rfl, hq, HN, HO⟩ := hrel
    by_cases hlt : q < 3
    · have k1 : (q : Int) < 3 := by omega
      have HS0 : Hid (Full wr W.heap.size 3 (fun k => if k = q then F 0 q else upTo q (F m) k)) := HN.out.congr fun k hk => by
        by_cases hkq : k = q
        · subst hkq
          rw [if_pos rfl, HFe.out]
          simp [upTo, bakI]
        · rw [if_neg hkq]
      clear HN
      go_upto_region 6 with fail
      go_loopw [19] (fun iv wx => ∃ i : Nat, iv = .int .i64 (i : Int) ∧ i ≤ m ∧ Hid (Full wx W.heap.size 3 (fun k => if k = q then F i q else upTo q (F m) k)) ∧ Hid (Old W wx)) (fun iv _ => m - (intOf iv).toNat)
      case atStart => exact ⟨0, rfl, Nat.zero_le _, HS0, HO⟩
      case round =>
        obtain ⟨i, rfl, hi, HN, HO⟩ := hrel
        by_cases hil : i < m
        · rcases HB.out with h0 | ⟨bx, ox, hqx, _, hrx⟩
          · omega
          rcases HRh.out with h0 | ⟨by_, oy, hqy, _, hry⟩
          · omega
          have cx := (HW0.out.trans HO.out).cellOf (hrx i hil).1
          have HBu : Hid (U64 (B i)) := (hrx i hil).2
          have HRu : Hid (U64 (Rh i q)) := (hry i (by omega) q hlt).2
          have HRc : Hid (∀ wx, Old wr wx → wx.cell? ⟨by_, oy + i * 3 + q, none⟩ = some (.int .u64 (Rh i q))) := fun wx hx => ((HW0.out.trans HO.out).trans hx).cellOf (hry i (by omega) q hlt).1
          have HLc : Hid (∀ wx, Old wr wx → wx.cell? ⟨W.heap.size, q, none⟩ = some (.int .u64 (F i q))) := fun wx hx => by have := (HN.out.old hx).cell q hlt; rwa [if_pos rfl] at this
          have HGr : Hid (∀ wx, Old wr wx → wx.heap[w.heap.size]? = some (.cells (gc P Q G H a n cap) 25 (0, 0))) := fun wx hx => HG.out _ (HO.out.trans hx)
          clear hrx hry
          subst hqx hqy
          go_upto_region 8 with fail
          refine wp_region_tab 20 [.k (.slice (some ⟨W.heap.size, 0, none⟩) 3 3), .k (.int .i64 (q : Int)), .k (.slice (some ⟨W.heap.size, 0, none⟩) 3 3), .k (.int .i64 (q : Int)), .k (.pointer (some ⟨W.heap.size, q, none⟩)), .k (.int .u64 (F i q)), .k (.int .u64 (B i)), .k (.slice (some ⟨by_, oy, none⟩) m2 c2), .k (.int .i64 (i : Int)), .k (.int .i64 (q : Int)), .k (.pointer (some ⟨by_, oy + i * 3, none⟩)), .k (.pointer (some ⟨by_, oy + i * 3 + q, none⟩)), .k (.int .u64 (Rh i q)), .k (.pointer (some ⟨w.heap.size, 1, none⟩)), .k (.int .u64 Q), .k (.int .u64 (mulI (B i) (Rh i q) Q)), .k (.pointer (some ⟨w.heap.size, 1, none⟩)), .k (.int .u64 Q), .k (.int .u64 (F (i + 1) q)), .k (.pointer (some ⟨W.heap.size, q, none⟩))] (Old wr) (by kernel_rfl) (by kernel_rfl) rfl ((Old.refl _).drew) ?st ?_
          case st =>
            refine .c stp <|
              .c stp <|
              .c stp <|
              .c stp <|
              .c (sti0 (n := 3) (c := 3) hlt Tryz.underlying29) <|
              .c (stl Tryz.underlying22 HLc.out) <|
              .c stp <|
              .c stp <|
              .c stp <|
              .c stp <|
              .c (stj (n := m2) (c := c2) 3 (by omega) Tryz.underlying28) <|
              .c (sai hlt Tryz.underlying63) <|
              .c (stl Tryz.underlying22 HRc.out) <|
              .c stp <|
              .c (stf 1 Tryz.underlying22 HGr.out) <|
              .c (stK old_R Tryz.func72 (fun wx _ => smul_any _ _ Q HBu.out HRu.out wx)) <|
              .c stp <|
              .c (stf 1 Tryz.underlying22 HGr.out) <|
              .c (stK old_R Tryz.func108 (fun wx _ => by have h := ssub_any (F i q) (mulI (B i) (Rh i q) Q) Q (by rw [HFe.out]; exact bak_u64 Q B Rh q i) (u64_mul _ _ _) wx; rwa [show subI (F i q) (mulI (B i) (Rh i q) Q) Q = F (i + 1) q by rw [HFe.out, HFe.out]; rfl] at h)) <|
              .c (sti0 (n := 3) (c := 3) hlt Tryz.underlying29) .n
          intro t wx hR hk
          simp only [fill, Ent.val, List.set_cons_zero, List.set_cons_succ, List.drop_succ_cons, List.drop_zero, List.drop_nil]
          have HNx := HN.out.old hR
          have q0 := HNx.cell q hlt
          have f0 := HNx.free q
          have HG1 : Hid (Full (wx.setCell ⟨W.heap.size, q, none⟩ (.int .u64 (F (i + 1) q))) W.heap.size 3 (fun k => if k = q then F (i + 1) q else upTo q (F m) k)) := (HNx.set q _).congr fun k hk => by
            by_cases hkq : k = q
            · rw [if_pos hkq, if_pos hkq]
            · rw [if_neg hkq, if_neg hkq, if_neg hkq]
          have HG2 : Hid (Old W (wx.setCell ⟨W.heap.size, q, none⟩ (.int .u64 (F (i + 1) q)))) := (HO.out.trans hR).setCell (Nat.le_refl _) _
          clear hR hk HNx HRc HLc HGr
          go_wp2_with fail
          go_roundw
          case rel => exact ⟨i + 1, idx_next i, by omega, HG1, HG2⟩
          case measure => simp [intOf]; omega
        · have he : m = i := by omega
          subst he
          have HD : Hid (Full wr W.heap.size 3 (upTo (q + 1) (F m))) := HN.out.congr fun k hk => by
            by_cases hkq : k = q
            · subst hkq
              simp [upTo]
            · rw [if_neg hkq]
              unfold upTo
              by_cases h : k < q
              · rw [if_pos h, if_pos (by omega)]
              · rw [if_neg h, if_neg (by omega)]
          go_wp2_with fail
          go_roundw
          case rel => exact ⟨q + 1, idx_next q, by omega, HD, HO⟩
          case measure => simp [intOf]; omega
    · have he : q = 3 := by omega
      subst he
      have HD : Hid (Full wr W.heap.size 3 (F m)) := HN.out.done
      go_wp2_with fail
      go_ret
      exact ⟨HW0.out.trans HO.out, W.heap.size, HW0.out.size, rfl, HD.out⟩

end Go.Proofs.YtlnmjbbpenhdbaaGreat
