/-
  What the proof needs, part 8.
-/
import Derived.Test.YtlnmjbbpenhdbaaGreatKp07
namespace Go.Proofs.YtlnmjbbpenhdbaaGreat
open Tryz
open List renaming set_cons_zero → Ls0, set_cons_succ → Ls1, drop_succ_cons → Ld1, drop_zero → Ld0, drop_nil → Ldn
open Tryz renaming underlying5 → U5, underlying9 → U9, underlying22 → U22, underlying25 → U25, underlying29 → U29, underlying41 → U41, underlying74 → U74, underlying152 → U152
set_option linter.unusedSimpArgs false
set_option linter.unusedVariables false
set_option maxRecDepth 100000
set_option maxHeartbeats 32000000
section
open Go.RowKit
def Ret (w : World) (v : Value) (e : Ending) (w' : World) : Prop := e = .returned v /\ Old w w'
theorem prod7 {P Q G : Int} (h : Righ P Q G) (x y : Int) : prodI P (two7 x y) 2 = mulI x y P := prod_two h.ok rfl rfl
theorem gprod7 (P Q G H : Int) (a : OA) (n cap : Nat) (x y : Int) (h4 : Four P Q G H) (hr : Righ P Q G) (hx : U64 x) (hy : U64 y) {b base : Nat} {wx : World} (hN : Nums wx base (.slice (some ⟨b, 0, none⟩) 2 2) 2 (two7 x y)) : Calls prog 64 #[gv P Q G H a n cap, .slice (some ⟨b, 0, none⟩) 2 2] wx (Ret wx (.int .u64 (mulI x y P))) := by
 obtain ⟨_, _, e, _, hf⟩ := hN.facs (fun i _ => u64_two hx hy i)
 cases e
 exact (zcl P Q G H a n cap _ 2 2 _ _ h4 hr (by decide) (by decide) hf).mono fun r w' ⟨h, k⟩ => ⟨by rw [h, prod7 hr], k⟩
def two8 (base : Nat) (x y : Int) : Ent := .u (fun v w => ∃ b, v = .slice (some ⟨b, 0, none⟩) 2 2 /\ Nums w base v 2 (two7 x y)) fun _ _ _ ⟨b, e, h⟩ ho => ⟨b, e, h.old ho⟩
theorem zeE (P Q G H : Int) (a : OA) (n cap : Nat) (m r : Int) (w : World) (h4 : Four P Q G H) (hr : Righ P Q G) (hm : U64 m) (hrr : U64 r) :
  Calls prog 59 #[gv P Q G H a n cap, .int .u64 m, .int .u64 r] w (Ret w (.int .u64 (comI P Q G H m r))) := by
 have HZ := lain1 w (gc P Q G H a n cap) 25
 have HT0 := fun w' ho => (HZ.then (W' := w') ho).row 0 (by simp)
 have HW0 := HZ.old
 go_enter func59, ntmps59
 go_upto_region 1 with fail
 generalize w.alloc (.cells (gc P Q G H a n cap) 25) = W at *
 have HG : ∀ wx, Old W wx -> wx.heap[w.heap.size]? = some (.cells (gc P Q G H a n cap) 25 (0, 0)) := HT0
 refine zaa 14 [.k (gv P Q G H a n cap), .k (gv P Q G H a n cap), .k (.pointer (some ⟨w.heap.size, 2, none⟩)), .k (.int .u64 G), .k (.int .u64 m), .k (.int .u64 (expI P Q G m)), .k (gv P Q G H a n cap), .k (.pointer (some ⟨w.heap.size, 3, none⟩)), .k (.int .u64 H), .k (.int .u64 r), .k (.int .u64 (expI P Q H r)), two8 W.heap.size (expI P Q G m) (expI P Q H r), .k (.int .u64 (comI P Q G H m r)), .k (.int .u64 (comI P Q G H m r))] (Old W) (by kernel_rfl) (by kernel_rfl) rfl (Old.refl _).drew ?st ?_
 case st =>
  refine .c (sts U25 HG) <| .c (sts U25 HG) <| .p <| .c (stf 2 U22 HG) <| .p <| .c (stK old_R func65 fun wx _ => za8 P Q G H G m a n cap wx h4 hr h4.g0 h4.g1 hm.1 hm.2) <| .c (sts U25 HG) <| .p <| .c (stf 3 U22 HG) <| .p <| .c (stK old_R func65 fun wx _ => za8 P Q G H H r a n cap wx h4 hr h4.h0 h4.h1 hrr.1 hrr.2) <| .c (stm (ob := fun _ => .cells #[.int .u64 (expI P Q G m), .int .u64 (expI P Q H r)] 22) (v := fun s => .slice (some ⟨s, 0, none⟩) 2 2) old_R fun t wx hR _ => ⟨_, rfl, zbG wx W.heap.size 2 [.int .u64 (expI P Q G m), .int .u64 (expI P Q H r)] (two7 (expI P Q G m) (expI P Q H r)) hR.size (by omega) rfl⟩) <| .c (stC (args := fun t => #[gv P Q G H a n cap, t 11]) old_R func64 fun t wx _ hd => ?_) <| .c stp .n
  obtain ⟨b, e, hN⟩ := hd 11 (by kernel_rfl)
  rw [e] at hN ⊢
  exact (gprod7 P Q G H a n cap _ _ h4 hr (zaz _ _ _ _) (zaz _ _ _ _) hN).mono fun r w' ⟨h, k⟩ => ⟨_, h, k, rfl⟩
 intro t wx hR hk
 simp only [fill, Ent.val, two8, Ls0, Ls1, Ld1, Ld0, Ldn]
 go_wp2_with fail
 go_ret
 exact ⟨rfl, HW0.trans hR⟩
abbrev tk (ba : OA) (na ca : Nat) (X : Int) (bb : OA) (nb cb : Nat) (Y Z : Int) (bp : OA) (np cp : Nat) : Value := .agg #[.slice ba na ca, .int .u64 X, .slice bb nb cb, .int .u64 Y, .int .u64 Z, .slice bp np cp]
abbrev tkc (ba : OA) (na ca : Nat) (X : Int) (bb : OA) (nb cb : Nat) (Y Z : Int) (bp : OA) (np cp : Nat) : Array Value := #[.slice ba na ca, .int .u64 X, .slice bb nb cb, .int .u64 Y, .int .u64 Z, .slice bp np cp]
theorem zcZ (P Q G H : Int) (a : OA) (n cap : Nat) (ba : OA) (na ca : Nat) (A : NI) (X : Int) (bb : OA) (nb cb : Nat) (B : NI) (Y Z : Int) (bp : OA) (np cp i : Nat) (w : World) (h4 : Four P Q G H) (hr : Righ P Q G) (hY : U64 Y) (hZ : U64 Z) (hA : FacsIn w ba na A) (hB : FacsIn w bb nb B) (ha : i < na) (hb : i < nb) :
  Calls prog 63 #[gv P Q G H a n cap, tk ba na ca X bb nb cb Y Z bp np cp, .int .i64 (i : Int)] w (Ret w (.int .u64 (bigI P Q G (A i) (B i) Y Z))) := by
 have uA := hA.u64 i ha
 have uB := hB.u64 i hb
 have uM := zaI (expI P Q (A i) Y) (B i) P
 have iG := hr.exp_in hr.gin (e := Z)
 rcases hA with h0 | ⟨ba, oa, rfl, _, hra⟩
 ·omega
 rcases hB with h0 | ⟨bb, ob, rfl, _, hrb⟩
 ·omega
 have HZ := lain2 w (gc P Q G H a n cap) (tkc (some ⟨ba, oa, none⟩) na ca X (some ⟨bb, ob, none⟩) nb cb Y Z bp np cp) 25 41
 have HG0 := fun w' ho => (HZ.then (W' := w') ho).row 0 (by simp)
 have HT0 := fun w' ho => (HZ.then (W' := w') ho).row 1 (by simp)
 have HA0 := fun w' ho => (HZ.old.trans (c := w') ho).cellOf (hra i ha).1
 have HB0 := fun w' ho => (HZ.old.trans (c := w') ho).cellOf (hrb i hb).1
 have HW0 := HZ.old
 clear hra hrb HZ
 go_enter func63, ntmps63
 go_upto_region 1 with fail
 generalize ((w.alloc (.cells (gc P Q G H a n cap) 25)).alloc (.cells (tkc (some ⟨ba, oa, none⟩) na ca X (some ⟨bb, ob, none⟩) nb cb Y Z bp np cp) 41)) = W at *
 have HG : ∀ wx, Old W wx -> wx.heap[w.heap.size]? = some (.cells (gc P Q G H a n cap) 25 (0, 0)) := HG0
 have HT : ∀ wx, Old W wx -> wx.heap[w.heap.size + 1]? = some (.cells (tkc (some ⟨ba, oa, none⟩) na ca X (some ⟨bb, ob, none⟩) nb cb Y Z bp np cp) 41 (0, 0)) := HT0
 have HA : ∀ wx, Old W wx -> wx.cell? ⟨ba, oa + i, none⟩ = some (.int .u64 (A i)) := HA0
 have HB : ∀ wx, Old W wx -> wx.cell? ⟨bb, ob + i, none⟩ = some (.int .u64 (B i)) := HB0
 refine zaa 26 [.k (gv P Q G H a n cap), .k (gv P Q G H a n cap), .k (gv P Q G H a n cap), .k (.pointer (some ⟨w.heap.size + 1, 0, none⟩)), .k (.slice (some ⟨ba, oa, none⟩) na ca), .k (.int .i64 (i : Int)), .k (.pointer (some ⟨ba, oa + i, none⟩)), .k (.int .u64 (A i)), .k (.pointer (some ⟨w.heap.size + 1, 3, none⟩)), .k (.int .u64 Y), .k (.int .u64 (expI P Q (A i) Y)), .k (.pointer (some ⟨w.heap.size + 1, 2, none⟩)), .k (.slice (some ⟨bb, ob, none⟩) nb cb), .k (.int .i64 (i : Int)), .k (.pointer (some ⟨bb, ob + i, none⟩)), .k (.int .u64 (B i)), two8 W.heap.size (expI P Q (A i) Y) (B i), .k (.int .u64 (mulI (expI P Q (A i) Y) (B i) P)), .k (gv P Q G H a n cap), .k (.pointer (some ⟨w.heap.size, 2, none⟩)), .k (.int .u64 G), .k (.pointer (some ⟨w.heap.size + 1, 4, none⟩)), .k (.int .u64 Z), .k (.int .u64 (expI P Q G Z)), .k (.int .u64 (bigI P Q G (A i) (B i) Y Z)), .k (.int .u64 (bigI P Q G (A i) (B i) Y Z))] (Old W) (by kernel_rfl) (by kernel_rfl) rfl ((Old.refl _).drew) ?st ?_
 case st =>
  refine .c (sts U25 HG) <| .c (sts U25 HG) <| .c (sts U25 HG) <| .p <| .c (stf 0 U29 HT) <| .p <| .c (sti (c := ca) ha U29) <| .c (stl U22 HA) <| .p <| .c (stf 3 U22 HT) <| .c (stK old_R func65 (fun wx _ => za8 P Q G H (A i) Y a n cap wx h4 hr uA.1 uA.2 hY.1 hY.2)) <| .p <| .c (stf 2 U29 HT) <| .p <| .c (sti (c := cb) hb U29) <| .c (stl U22 HB) <| .c (stm (ob := fun t => .cells #[.int .u64 (expI P Q (A i) Y), .int .u64 (B i)] 22) (v := fun s => .slice (some ⟨s, 0, none⟩) 2 2) old_R fun t wx hR hd => ⟨_, rfl, zbG wx W.heap.size 2 [.int .u64 (expI P Q (A i) Y), .int .u64 (B i)] (two7 (expI P Q (A i) Y) (B i)) hR.size (by omega) rfl⟩) <| .c (stC (args := fun t => #[gv P Q G H a n cap, t 16]) old_R func64 fun t wx hR hd => ?_) <| .c (sts U25 HG) <| .p <| .c (stf 2 U22 HG) <| .p <| .c (stf 4 U22 HT) <| .c (stK old_R func65 (fun wx _ => za8 P Q G H G Z a n cap wx h4 hr h4.g0 h4.g1 hZ.1 hZ.2)) <| .c (stK old_R func99 (fun wx _ => gover_any P Q G H a n cap _ _ wx h4 hr uM iG)) <| .c stp .n
  obtain ⟨b, e, hN⟩ := hd 16 (by kernel_rfl)
  rw [e] at hN ⊢
  exact (gprod7 P Q G H a n cap _ _ h4 hr (zaz _ _ _ _) uB hN).mono fun r w' ⟨h, k⟩ => ⟨_, h, k, rfl⟩
 intro t wx hR hk
 simp only [fill, Ent.val, two8, Ls0, Ls1, Ld1, Ld0, Ldn]
 go_wp2_with fail
 go_ret
 exact ⟨rfl, HW0.trans hR⟩
end
section
open Go.RowKit
section
variable (P Q G H X Y Z y : Int) (n : Nat) (o : Nat -> Nat) (R S T : NI) (Rho : NN)
def bE (i : Nat) : Int := powI X ((o i : Int) + 1) Q
def dE (i : Nat) : Int := subI (addI (mulI Y ((o i : Int) + 1) Q) (bE Q X o i) Q) Z Q
def uE (i : Nat) : Int := addI (mulI Y (R i) Q) (S i) Q
def vE : Nat -> Int
 | 0 => uE Q Y R S 0
 | i + 1 => addI (mulI (vE i) (dE Q X Y Z o (i + 1)) Q) (T (i + 1)) Q
def rhoE (w : Nat) : Nat -> Int
 | 0 => 0
 | i + 1 => subI (rhoE w i) (mulI (bE Q X o i) (Rho i w) Q) Q
def exF (k : Nat) : Int :=
 if k < n then ((o k : Int) + 1) % Q
 else if k < 2 * n then R (k - n) % Q
 else if k < 3 * n then bE Q X o (k - 2 * n)
 else if k < 4 * n then S (k - 3 * n) % Q
 else if k < 5 * n then dE Q X Y Z o (k - 4 * n)
 else if k < 6 * n then uE Q Y R S (k - 5 * n)
 else if k < 7 * n - 1 then T (k - 6 * n + 1) % Q
 else if k = 7 * n - 1 then vE Q X Y Z o R S T (n - 1)
 else rhoE Q X o Rho (k - 7 * n) n
def kF (j : Nat) : Int := subI (addI (mulI Y ((j : Int) + 1) Q) (powI X ((j : Int) + 1) Q) Q) Z Q
end
theorem Righ.q1' {P Q G : Int} (h : Righ P Q G) : 0 < Q := by have := h.q0; omega
theorem zfU (a e m : Int) : 0 <= powI a e m := by
 unfold powI
 split
 ·rename_i hm
  unfold okM at hm
  simp only [Bool.and_eq_true, decide_eq_true_eq] at hm
  exact Int.emod_nonneg _ (by omega)
 ·exact Int.le_refl _
theorem vE_nn (Q X Y Z : Int) (o : Nat -> Nat) (R S T : NI) : ∀ i, 0 <= vE Q X Y Z o R S T i
 | 0 => (zbZ _ _ _).1
 | _ + 1 => (zbZ _ _ _).1
theorem rhoE_nn (Q X : Int) (o : Nat -> Nat) (Rho : NN) (w : Nat) : ∀ i, 0 <= rhoE Q X o Rho w i
 | 0 => Int.le_refl _
 | _ + 1 => zcS _ _ _
theorem zdI {Q X Y Z : Int} {n : Nat} {o : Nat -> Nat} {R S T : NI} {Rho : NN} (hQ : 0 < Q) (k : Nat) : 0 <= exF Q X Y Z n o R S T Rho k := by
 unfold exF
 repeat' split
 all_goals first
  | exact Int.emod_nonneg _ (by omega)
  | exact zfU _ _ _
  | exact zcS _ _ _
  | exact (zbZ _ _ _).1
  | exact vE_nn _ _ _ _ _ _ _ _ _
  | exact rhoE_nn _ _ _ _ _ _
theorem rhoE_sum {P Q G X : Int} (h : Righ P Q G) (o : Nat -> Nat) (Rho : NN) (w : Nat) : ∀ n, (sumI8 (fun i => bE Q X o i * Rho i w) n + rhoE Q X o Rho w n) % Q = 0
 | 0 => by show ((0 : Int) + 0) % Q = 0; rw [Int.add_zero, Int.zero_emod]
 | n + 1 => by
  have ih := rhoE_sum h (X := X) o Rho w n
  show (sumI8 (fun i => bE Q X o i * Rho i w) n + bE Q X o n * Rho n w + subI (rhoE Q X o Rho w n) (mulI (bE Q X o n) (Rho n w) Q) Q) % Q = 0
  rw [zb7 h.okq, zaw h.okq]
  have e1 : (sumI8 (fun i => bE Q X o i * Rho i w) n + bE Q X o n * Rho n w + (rhoE Q X o Rho w n - bE Q X o n * Rho n w % Q) % Q) % Q = (sumI8 (fun i => bE Q X o i * Rho i w) n + bE Q X o n * Rho n w + (rhoE Q X o Rho w n - bE Q X o n * Rho n w)) % Q := zbJ rfl ((zak _ _).trans (cong_sub rfl (zak _ _)))
  rw [e1, show sumI8 (fun i => bE Q X o i * Rho i w) n + bE Q X o n * Rho n w + (rhoE Q X o Rho w n - bE Q X o n * Rho n w) = sumI8 (fun i => bE Q X o i * Rho i w) n + rhoE Q X o Rho w n by omega]
  exact ih
theorem exF_a {Q X Y Z : Int} {n : Nat} {o : Nat -> Nat} {R S T : NI} {Rho : NN} {i : Nat} (hi : i < n) : exF Q X Y Z n o R S T Rho i = ((o i : Int) + 1) % Q := if_pos hi
theorem exF_r {Q X Y Z : Int} {n : Nat} {o : Nat -> Nat} {R S T : NI} {Rho : NN} {i : Nat} (hi : i < n) : exF Q X Y Z n o R S T Rho (n + i) = R i % Q := by
 unfold exF
 rw [if_neg (by omega), if_pos (by omega), show n + i - n = i by omega]
theorem exF_b {Q X Y Z : Int} {n : Nat} {o : Nat -> Nat} {R S T : NI} {Rho : NN} {i : Nat} (hi : i < n) : exF Q X Y Z n o R S T Rho (2 * n + i) = bE Q X o i := by
 unfold exF
 rw [if_neg (by omega), if_neg (by omega), if_pos (by omega), show 2 * n + i - 2 * n = i by omega]
theorem exF_s {Q X Y Z : Int} {n : Nat} {o : Nat -> Nat} {R S T : NI} {Rho : NN} {i : Nat} (hi : i < n) : exF Q X Y Z n o R S T Rho (3 * n + i) = S i % Q := by
 unfold exF
 rw [if_neg (by omega), if_neg (by omega), if_neg (by omega), if_pos (by omega), show 3 * n + i - 3 * n = i by omega]
theorem exF_d {Q X Y Z : Int} {n : Nat} {o : Nat -> Nat} {R S T : NI} {Rho : NN} {i : Nat} (hi : i < n) : exF Q X Y Z n o R S T Rho (4 * n + i) = dE Q X Y Z o i := by
 unfold exF
 rw [if_neg (by omega), if_neg (by omega), if_neg (by omega), if_neg (by omega), if_pos (by omega), show 4 * n + i - 4 * n = i by omega]
theorem exF_u {Q X Y Z : Int} {n : Nat} {o : Nat -> Nat} {R S T : NI} {Rho : NN} {i : Nat} (hi : i < n) : exF Q X Y Z n o R S T Rho (5 * n + i) = uE Q Y R S i := by
 unfold exF
 rw [if_neg (by omega), if_neg (by omega), if_neg (by omega), if_neg (by omega), if_neg (by omega), if_pos (by omega), show 5 * n + i - 5 * n = i by omega]
theorem exF_t {Q X Y Z : Int} {n : Nat} {o : Nat -> Nat} {R S T : NI} {Rho : NN} {i : Nat} (hi : i + 1 < n) : exF Q X Y Z n o R S T Rho (6 * n + i) = T (i + 1) % Q := by
 unfold exF
 rw [if_neg (by omega), if_neg (by omega), if_neg (by omega), if_neg (by omega), if_neg (by omega), if_neg (by omega), if_pos (by omega), show 6 * n + i - 6 * n = i by omega]
theorem exF_v {Q X Y Z : Int} {n : Nat} {o : Nat -> Nat} {R S T : NI} {Rho : NN} (hn : 0 < n) : exF Q X Y Z n o R S T Rho (7 * n - 1) = vE Q X Y Z o R S T (n - 1) := by
 unfold exF
 rw [if_neg (by omega), if_neg (by omega), if_neg (by omega), if_neg (by omega), if_neg (by omega), if_neg (by omega), if_neg (by omega), if_pos rfl]
theorem exF_w {Q X Y Z : Int} {n : Nat} {o : Nat -> Nat} {R S T : NI} {Rho : NN} (hn : 0 < n) (w : Nat) : exF Q X Y Z n o R S T Rho (7 * n + w) = rhoE Q X o Rho w n := by
 unfold exF
 rw [if_neg (by omega), if_neg (by omega), if_neg (by omega), if_neg (by omega), if_neg (by omega), if_neg (by omega), if_neg (by omega), if_neg (by omega), show 7 * n + w - 7 * n = w by omega]
def row28 (p : Nat) (x : Int) (q : Nat) (z : Int) : Nat -> Int := fun k => if k = p then x else if k = q then z else 1
def rowS8 (m n : Nat) (W : NI) (q : Nat) (z : Int) : Nat -> Int := fun k => if m <= k /\ k < m + n then W (k - m) else if k = q then z else 1
theorem Righ.row28 {P Q G x z t : Int} (h : Righ P Q G) {E : NI} {p q N : Nat} (hpq : p < q) (hq : q < N) (hx : inI P Q x = true) (hz : inI P Q z = true) (hE : ∀ k, 0 <= E k) (ht : inI P Q t = true) (hc : x ^ (E p).toNat * z ^ (E q).toNat % P = t % P) : imI P Q (row28 p x q z) E N = t := by
 have e1 : Go.Proofs.YtlnmjbbpenhdbaaGreat.row28 p x q z p = x := by simp [Go.Proofs.YtlnmjbbpenhdbaaGreat.row28]
 have e2 : Go.Proofs.YtlnmjbbpenhdbaaGreat.row28 p x q z q = z := by unfold Go.Proofs.YtlnmjbbpenhdbaaGreat.row28; rw [if_neg (by omega), if_pos rfl]
 exact h.row2 hpq hq (fun k _ h1 h2 => by unfold Go.Proofs.YtlnmjbbpenhdbaaGreat.row28; rw [if_neg h1, if_neg h2]) (by rw [e1]; exact hx) (by rw [e2]; exact hz) (fun k _ => hE k) ht (by rw [e1, e2]; exact hc)
theorem Righ.rowS8 {P Q G z t : Int} (h : Righ P Q G) {W E : NI} {m n q N : Nat} (hmq : m + n <= q) (hq : q < N) (hW : ∀ i, i < n -> inI P Q (W i) = true) (hz : inI P Q z = true) (hE : ∀ k, 0 <= E k) (ht : inI P Q t = true) (hc : pw W (fun i => E (m + i)) n * z ^ (E q).toNat % P = t % P) : imI P Q (rowS8 m n W q z) E N = t := by
 have e2 : Go.Proofs.YtlnmjbbpenhdbaaGreat.rowS8 m n W q z q = z := by unfold Go.Proofs.YtlnmjbbpenhdbaaGreat.rowS8; rw [if_neg (by omega), if_pos rfl]
 have e3 : ∀ i, i < n -> Go.Proofs.YtlnmjbbpenhdbaaGreat.rowS8 m n W q z (m + i) = W i := fun i hi => by unfold Go.Proofs.YtlnmjbbpenhdbaaGreat.rowS8; rw [if_pos (by omega), show m + i - m = i by omega]
 refine h.im_is8 N (fun k _ => ?_) (fun k _ => hE k) ht ?_
 ·unfold Go.Proofs.YtlnmjbbpenhdbaaGreat.rowS8
  split
  ·rename_i hk; exact hW _ (by omega)
  ·split
   ·exact hz
   ·exact h.one_in
 ·rw [pw_span hmq hq (fun k _ h1 h2 => by unfold Go.Proofs.YtlnmjbbpenhdbaaGreat.rowS8; rw [if_neg (by omega), if_neg h2]), e2, zdX n (fun i hi => ⟨e3 i hi, rfl⟩)]
  exact hc
end
section
open Go.RowKit
def facI (Q X Y Z j : Int) : Int := subI (addI (mulI Y j Q) (powI X j Q) Q) Z Q
theorem zbi (a e m : Int) : U64 (powI a e m) := ⟨(powI_bd _ _ _).1, Int.le_trans (powI_bd _ _ _).2 (by decide)⟩
theorem zba (a b m : Int) : U64 (addI a b m) := ⟨(zbZ _ _ _).1, Int.le_trans (zbZ _ _ _).2 (by decide)⟩
theorem zde (x y Q : Int) (hx : U64 x) (hy : U64 y) (w : World) : Calls prog 72 #[.int .u64 x, .int .u64 y, .int .u64 Q] w (Ret w (.int .u64 (mulI x y Q))) := (zcU x y Q w hx.1 hx.2 hy.1 hy.2).mono fun r w' ⟨h, k⟩ => ⟨h, (Old.refl _).draws k⟩
theorem sadd_any (x y Q : Int) (hx : U64 x) (hy : U64 y) (w : World) : Calls prog 71 #[.int .u64 x, .int .u64 y, .int .u64 Q] w (Ret w (.int .u64 (addI x y Q))) := (zeg x y Q w hx.1 hx.2 hy.1 hy.2).mono fun r w' ⟨h, k⟩ => ⟨h, (Old.refl _).draws k⟩
theorem ssub_any (x y Q : Int) (hx : U64 x) (hy : U64 y) (w : World) : Calls prog 108 #[.int .u64 x, .int .u64 y, .int .u64 Q] w (Ret w (.int .u64 (subI x y Q))) := (sub_any x y Q w hx.1 hx.2 hy.1 hy.2).mono fun r w' ⟨h, k⟩ => ⟨h, (Old.refl _).draws k⟩
theorem zdZ (x y Q : Int) (hx : U64 x) (hy : U64 y) (w : World) : Calls prog 61 #[.int .u64 x, .int .u64 y, .int .u64 Q] w (Ret w (.int .u64 (powI x y Q))) := (pow_any x y Q w hx.1 hx.2 hy.1 hy.2).mono fun r w' ⟨h, k⟩ => ⟨h, (Old.refl _).draws k⟩
theorem zcX (P Q G H : Int) (a : OA) (n cap : Nat) (ba : OA) (na ca : Nat) (X : Int) (bb : OA) (nb cb : Nat) (Y Z : Int) (bp : OA) (np cp : Nat) (j : Int) (w : World) (hX : U64 X) (hY : U64 Y) (hZ : U64 Z) (hj : U64 j) :
  Calls prog 66 #[gv P Q G H a n cap, tk ba na ca X bb nb cb Y Z bp np cp, .int .u64 j] w (Ret w (.int .u64 (facI Q X Y Z j))) := by
 have HZ := lain2 w (gc P Q G H a n cap) (tkc ba na ca X bb nb cb Y Z bp np cp) 25 41
 have HG0 := fun w' ho => (HZ.then (W' := w') ho).row 0 (by simp)
 have HT0 := fun w' ho => (HZ.then (W' := w') ho).row 1 (by simp)
 have HW0 := HZ.old
 clear HZ
 go_enter func66, ntmps66
 go_upto_region 1 with fail
 generalize ((w.alloc (.cells (gc P Q G H a n cap) 25)).alloc (.cells (tkc ba na ca X bb nb cb Y Z bp np cp) 41)) = W at *
 have HG : ∀ wx, Old W wx -> wx.heap[w.heap.size]? = some (.cells (gc P Q G H a n cap) 25 (0, 0)) := HG0
 have HT : ∀ wx, Old W wx -> wx.heap[w.heap.size + 1]? = some (.cells (tkc ba na ca X bb nb cb Y Z bp np cp) 41 (0, 0)) := HT0
 refine zaa 16 [.k (.pointer (some ⟨w.heap.size + 1, 3, none⟩)), .k (.int .u64 Y), .k (.int .u64 j), .k (.pointer (some ⟨w.heap.size, 1, none⟩)), .k (.int .u64 Q), .k (.int .u64 (mulI Y j Q)), .k (.pointer (some ⟨w.heap.size + 1, 1, none⟩)), .k (.int .u64 X), .k (.int .u64 j), .k (.pointer (some ⟨w.heap.size, 1, none⟩)), .k (.int .u64 Q), .k (.int .u64 (powI X j Q)), .k (.pointer (some ⟨w.heap.size, 1, none⟩)), .k (.int .u64 Q), .k (.int .u64 (addI (mulI Y j Q) (powI X j Q) Q)), .k (.int .u64 (addI (mulI Y j Q) (powI X j Q) Q))] (Old W) (by kernel_rfl) (by kernel_rfl) rfl ((Old.refl _).drew) ?st ?_
 case st =>
  refine .p <| .c (stf 3 U22 HT) <| .p <| .p <| .c (stf 1 U22 HG) <| .c (stK old_R func72 (fun wx _ => zde Y j Q hY hj wx)) <| .p <| .c (stf 1 U22 HT) <| .p <| .p <| .c (stf 1 U22 HG) <| .c (stK old_R func61 (fun wx _ => zdZ X j Q hX hj wx)) <| .p <| .c (stf 1 U22 HG) <| .c (stK old_R func71 (fun wx _ => sadd_any _ _ Q (zaI _ _ _) (zbi _ _ _) wx)) <| .c stp .n
 intro t wx hR hk
 simp only [fill, Ent.val, Ls0, Ls1, Ld1, Ld0, Ldn]
 have d0 := Y1 (HG _ hR)
 have d1 := Y4 (HT _ hR)
 go_wp2_with (go_at_call 108; refine (ssub_any _ Z Q (zba _ _ _) hZ _).mono ?_; rintro e wz ⟨rfl, oz⟩)
 go_ret
 exact ⟨rfl, (HW0.trans hR).trans oz⟩
def Lanswer : Prop := ∀ (P Q G H : Int) (a : OA) (n cap : Nat) (b1 : OA) (n1 c1 : Nat) (X : NI) (b2 : OA) (n2 c2 : Nat) (Y : NI) (e : Int) (w : World), Four P Q G H -> Righ P Q G -> U64 e -> n1 <= 80 -> n2 <= 80 -> n1 <= c1 -> n2 <= c2 -> FacsIn w b1 n1 X -> FacsIn w b2 n2 Y ->
  Calls prog 43 #[gv P Q G H a n cap, .slice b1 n1 c1, .slice b2 n2 c2, .int .u64 e] w (Gives w (decide (n1 = n2)) n1 (fun k => ansI Q e (X k) (Y k)))
def Full (w : World) (b n : Nat) (F : NI) : Prop := w.heap[b]? = some (.cells ((List.range n).map fun k => Value.int .u64 (F k)).toArray 22 (0, 0))
theorem full_made (n : Nat) : madeCells #[Value.int .u64 0] n = ((List.range n).map fun _ => Value.int .u64 0).toArray := by
 unfold madeCells
 apply Array.ext
 ·simp
 ·intro i h1 h2
  simp [Nat.mod_one]
theorem full_new (w : World) (n : Nat) (F : NI) (h : ∀ k, k < n -> F k = 0) : Full (w.alloc (.cells (madeCells #[Value.int .u64 0] n) 22)) w.heap.size n F := by
 unfold Full
 rw [full_made, heap_alloc_last]
 congr 3
 apply List.map_congr_left
 intro k hk
 rw [h k (List.mem_range.1 hk)]
theorem Full.lt {w : World} {b n : Nat} {F : NI} (h : Full w b n F) : b < w.heap.size := (Array.getElem?_eq_some_iff.1 h).1
theorem Full.old {w w' : World} {b n : Nat} {F : NI} (h : Full w b n F) (ho : Old w w') : Full w' b n F := (ho.block b h.lt).trans h
theorem Full.cell {w : World} {b n : Nat} {F : NI} (h : Full w b n F) (i : Nat) (hi : i < n) : w.cell? ⟨b, i, none⟩ = some (.int .u64 (F i)) := by
 rw [cell_of_row _ _ i _ _ (0, 0) h]
 simp [hi]
theorem Full.free {w : World} {b n : Nat} {F : NI} (h : Full w b n F) (i : Nat) : w.frozen? ⟨b, i, none⟩ = false := zac h i
theorem Full.congr {w : World} {b n : Nat} {F G : NI} (h : Full w b n F) (he : ∀ k, k < n -> F k = G k) : Full w b n G := by
 unfold Full at h ⊢
 rw [h]
 congr 3
 apply List.map_congr_left
 intro k hk
 rw [he k (List.mem_range.1 hk)]
theorem Full.set {w : World} {b n : Nat} {F : NI} (h : Full w b n F) (i : Nat) (x : Int) : Full (w.setCell ⟨b, i, none⟩ (.int .u64 x)) b n (fun k => if k = i then x else F k) := by
 unfold Full
 rw [zaq h, List.setIfInBounds_toArray]
 congr 3
 apply List.ext_getElem
 ·simp
 ·intro k h1 h2
  simp only [List.getElem_set, List.getElem_map, List.getElem_range]
  by_cases hk : i = k
  ·subst hk; simp
  ·rw [if_neg hk, if_neg (fun e => hk e.symm)]
def upTo (i : Nat) (F : NI) : Nat -> Int := fun k => if k < i then F k else 0
theorem zaC (w : World) (n : Nat) (F : NI) : Full (w.alloc (.cells (madeCells #[Value.int .u64 0] n) 22)) w.heap.size n (upTo 0 F) := full_new w n _ fun k _ => by simp [upTo]
theorem Full.next {w : World} {b n i : Nat} {F : NI} (h : Full w b n (upTo i F)) : Full (w.setCell ⟨b, i, none⟩ (.int .u64 (F i))) b n (upTo (i + 1) F) :=
 (h.set i (F i)).congr fun k _ => by
  unfold upTo
  by_cases hk : k = i
  ·subst hk; simp
  ·rw [if_neg hk]
   by_cases h2 : k < i
   ·rw [if_pos h2, if_pos (by omega)]
   ·rw [if_neg h2, if_neg (by omega)]
theorem Full.done {w : World} {b n : Nat} {F : NI} (h : Full w b n (upTo n F)) : Full w b n F := h.congr fun k hk => by simp [upTo, hk]
theorem Full.nums {w : World} {base b n : Nat} {F : NI} (h : Full w b n F) (hb : base <= b) (hn : n <= 9223372036854775807) : Nums w base (.slice (some ⟨b, 0, none⟩) n n) n F := by
 refine ⟨by simp, Or.inr ⟨b, n, _, rfl, hb, h, Nat.le_refl _, by unfold maxLen; omega, by simp, by simp [List.take_of_length_le]⟩⟩
theorem Full.facs {w : World} {b n : Nat} {F : NI} (h : Full w b n F) (hF : ∀ k, k < n -> U64 (F k)) : FacsIn w (some ⟨b, 0, none⟩) n F :=
 Or.inr ⟨b, 0, rfl, h.lt, fun j hj => ⟨by rw [Nat.zero_add]; exact h.cell j hj, (hF j hj).1, (hF j hj).2⟩⟩
theorem zaP (n : Nat) (h : n <= 80) (w : World) : (Instr.makeSlice 29 (.int .i64 (n : Int)) (.int .i64 (n : Int))).run prog w = .ok (.slice (some ⟨w.heap.size, 0, none⟩) n n) (w.alloc (.cells (madeCells #[Value.int .u64 0] n) 22)) :=
 run_make_row' (P := prog) 29 22 (.int .u64 0) 8 U29 zbj rfl .i64 .i64 n (by omega) (by omega) w
def rowAt (x : Int) (p : Nat) : Nat -> Int := fun k => if k = p then x else 1
abbrev bv (u0 v0 u1 v1 u2 v2 : Int) : Value := .agg #[.int .u64 u0, .int .u64 v0, .int .u64 u1, .int .u64 v1, .int .u64 u2, .int .u64 v2]
abbrev bc (u0 v0 u1 v1 u2 v2 : Int) : Array Value := #[.int .u64 u0, .int .u64 v0, .int .u64 u1, .int .u64 v1, .int .u64 u2, .int .u64 v2]
theorem box_at (u0 v0 u1 v1 u2 v2 : Int) : ∀ (i : Nat) (_ : i < 3) (w : World), (Instr.index 74 (.agg #[.int .u64 u0, .int .u64 v0, .int .u64 u1, .int .u64 v1, .int .u64 u2, .int .u64 v2]) (.int .i64 (i : Int))).run prog w = .ok (pv (tri7 u0 u1 u2 i) (tri7 v0 v1 v2 i)) w
 | 0, _, w => by
  obtain ⟨i, h1, h2⟩ := Option.map_eq_some_iff.1 zcp
  simp [Instr.index, run_underlying U74, asIntOf, sizeOf, typeInfo, h1, h2, go_sem]
  exact ⟨rfl, rfl⟩
 | 1, _, w => by
  obtain ⟨i, h1, h2⟩ := Option.map_eq_some_iff.1 zcp
  simp [Instr.index, run_underlying U74, asIntOf, sizeOf, typeInfo, h1, h2, go_sem]
  exact ⟨rfl, rfl⟩
 | 2, _, w => by
  obtain ⟨i, h1, h2⟩ := Option.map_eq_some_iff.1 zcp
  simp [Instr.index, run_underlying U74, asIntOf, sizeOf, typeInfo, h1, h2, go_sem]
  exact ⟨rfl, rfl⟩
theorem slinfo : (prog.info? 29).map (fun i => (i.zero, i.size, i.bytes)) = some (some (.slice none 0 0), 1, 24) := by kernel_rfl
theorem Full.grown {w w' : World} {b n : Nat} {F : NI} {row : Option Nat} (h : Full w b n F) (hg : w.grownBy w' row) (hne : row ≠ some b) : Full w' b n F := (hg.block b h.lt (Ne.symm hne)).trans h
theorem Full.other {w : World} {b n : Nat} {F : NI} (h : Full w b n F) {p : Addr} (hne : b ≠ p.block) (v : Value) : Full (w.setCell p v) b n F := (Below.heap_setCell w p v b hne).trans h
structure Kp (W : World) (G : Int) (U : NI) (i k : Nat) (v u : Value) (bk : Nat -> Nat) (wx : World) : Prop where
 old : Old W wx
 big : W.heap.size + 1 <= wx.heap.size
 nums : Nums wx (W.heap.size + 1) v i U
 own : wx.ownsRow (W.heap.size + 1) 29 1 u k ((List.range k).map fun j => Value.slice (some ⟨bk j, 0, none⟩) 3 3)
 full : ∀ j, j < k -> W.heap.size + 1 <= bk j /\ Full wx (bk j) 3 (rowAt G j)
 s1 : ∀ j, j < k -> v.ownBlock ≠ some (bk j)
 s2 : ∀ j, j < k -> u.ownBlock ≠ some (bk j)
 s3 : v.ownBlock = none ∨ u.ownBlock ≠ v.ownBlock
def IntsIn (w : World) (a : OA) (n : Nat) (O : NI) : Prop :=
 n = 0 ∨ ∃ b off, a = some ⟨b, off, none⟩ /\ b < w.heap.size /\ ∀ j, j < n -> w.cell? ⟨b, off + j, none⟩ = some (.int .i64 (O j)) /\ -9223372036854775808 <= O j /\ O j <= 9223372036854775807
theorem IntsIn.old {w w' : World} {a : OA} {n : Nat} {O : NI} (h : IntsIn w a n O) (ho : Old w w') : IntsIn w' a n O := by
 rcases h with h | ⟨b, off, ha, hb, hr⟩
 ·exact Or.inl h
 ·exact Or.inr ⟨b, off, ha, Nat.lt_of_lt_of_le hb ho.size, fun j hj => ⟨ho.cellOf (hr j hj).1, (hr j hj).2⟩⟩
def RhoIn (w : World) (a : OA) (n : Nat) (R : NN) : Prop :=
 n = 0 ∨ ∃ b off, a = some ⟨b, off, none⟩ /\ b < w.heap.size /\ ∀ j, j < n -> ∀ k, k < 3 -> w.cell? ⟨b, off + j * 3 + k, none⟩ = some (.int .u64 (R j k)) /\ U64 (R j k)
theorem RhoIn.old {w w' : World} {a : OA} {n : Nat} {R : NN} (h : RhoIn w a n R) (ho : Old w w') : RhoIn w' a n R := by
 rcases h with h | ⟨b, off, ha, hb, hr⟩
 ·exact Or.inl h
 ·exact Or.inr ⟨b, off, ha, Nat.lt_of_lt_of_le hb ho.size, fun j hj k hk => ⟨ho.cellOf (hr j hj k hk).1, (hr j hj k hk).2⟩⟩
theorem RhoIn.u64 {w : World} {a : OA} {n : Nat} {R : NN} (h : RhoIn w a n R) {j k : Nat} (hj : j < n) (hk : k < 3) : U64 (R j k) := by
 rcases h with h0 | ⟨_, _, _, _, h⟩
 ·omega
 ·exact (h j hj k hk).2
def BoxsIn (w : World) (a : OA) (n : Nat) (C : NN) : Prop :=
 n = 0 ∨ ∃ b off, a = some ⟨b, off, none⟩ /\ b < w.heap.size /\ ∀ j, j < n -> ∀ k, k < 6 -> w.cell? ⟨b, off + j * 6 + k, none⟩ = some (.int .u64 (C j k)) /\ U64 (C j k)
theorem BoxsIn.old {w w' : World} {a : OA} {n : Nat} {C : NN} (h : BoxsIn w a n C) (ho : Old w w') : BoxsIn w' a n C := by
 rcases h with h | ⟨b, off, ha, hb, hr⟩
 ·exact Or.inl h
 ·exact Or.inr ⟨b, off, ha, Nat.lt_of_lt_of_le hb ho.size, fun j hj k hk => ⟨ho.cellOf (hr j hj k hk).1, (hr j hj k hk).2⟩⟩
theorem BoxsIn.u64 {w : World} {a : OA} {n : Nat} {C : NN} (h : BoxsIn w a n C) {j k : Nat} (hj : j < n) (hk : k < 6) : U64 (C j k) := by
 rcases h with h0 | ⟨_, _, _, _, h⟩
 ·omega
 ·exact (h j hj k hk).2
def uB (C : NN) (j w : Nat) : Int := C j (2 * (min w 2))
def vB (C : NN) (j w : Nat) : Int := C j (2 * (min w 2) + 1)
def flatF (C : NN) : Nat -> Int := fun k => C (k / 6) (k % 6)
theorem ordK8_le {O : NI} {k : Int} : ∀ n, (∀ i j, i < n -> j < n -> O i = k -> O j = k -> i = j) -> ordK8 O k n <= 1
 | 0, _ => by show 0 <= 1; omega
 | n + 1, h => by
  show ordK8 O k n + (if O n = k then 1 else 0) <= 1
  by_cases hx : O n = k
  ·rw [if_pos hx]
   by_cases h0 : 0 < ordK8 O k n
   ·obtain ⟨i, hi, he⟩ := zd0 n h0
    have := h i n (by omega) (by omega) he hx
    omega
   ·omega
  ·rw [if_neg hx]
   have := ordK8_le n fun i j hi hj => h i j (by omega) (by omega)
   omega
def OrdP (n : Nat) (O : NI) : Prop := 0 < n /\ (∀ i, i < n -> 0 <= O i /\ O i < (n : Int)) /\ ∀ i j, i < j -> j < n -> O i ≠ O j
def ordB (n : Nat) (O : NI) : Bool := decide (0 < n) && ((List.range n).all (fun i => decide (0 <= O i) && decide (O i < (n : Int))) && (List.range n).all fun j => (List.range j).all fun i => decide (O i ≠ O j))
theorem zaA {n : Nat} {O : NI} : ordB n O = true ↔ OrdP n O := by
 unfold ordB OrdP
 simp only [Bool.and_eq_true, decide_eq_true_eq, List.all_eq_true, List.mem_range]
 exact ⟨fun ⟨h1, h2, h3⟩ => ⟨h1, h2, fun i j hij hj => h3 j hj i hij⟩, fun ⟨h1, h2, h3⟩ => ⟨h1, h2, fun j hj i hij => h3 i j hij hj⟩⟩
theorem ordB8_in {O : NI} {m : Nat} : ∀ n, (∀ i, i < n -> 0 <= O i /\ O i < (m : Int)) -> ordB8 O m n = n
 | 0, _ => rfl
 | n + 1, h => by
  show ordB8 O m n + (if 0 <= O n /\ O n < (m : Int) then 1 else 0) = n + 1
  rw [ordB8_in n fun i hi => h i (by omega), if_pos (h n (by omega))]
theorem ze2 {O : NI} {n : Nat} : ∀ m, (∀ k, k < m -> ordK8 O (k : Nat) n <= 1) -> ordB8 O m n <= m
 | 0, _ => by
  have := zb6 (O := O) (n := n) 0 (fun k hk => by omega)
  omega
 | m + 1, h => by
  rw [zcE]
  have := ze2 m fun k hk => h k (by omega)
  have := h m (by omega)
  omega
theorem ze3 {O : NI} {n : Nat} : ∀ m, (∀ k, k < m -> ordK8 O (k : Nat) n <= 1) -> ordB8 O m n = m -> ∀ k, k < m -> ordK8 O (k : Nat) n = 1
 | 0, _, _, k, hk => by omega
 | m + 1, h, he, k, hk => by
  rw [zcE] at he
  have h1 := ze2 m fun k hk => h k (by omega)
  have h2 := h m (by omega)
  by_cases hkm : k = m
  ·subst hkm; omega
  ·exact ze3 m (fun k hk => h k (by omega)) (by omega) k (by omega)
theorem OrdP.once {n : Nat} {O : NI} (h : OrdP n O) : ∀ k, k < n -> ordK8 O (k : Nat) n = 1 := by
 refine ze3 n (fun k _ => ordK8_le n fun i j hi hj hx hy => ?_) (ordB8_in n h.2.1)
 by_cases h1 : i < j
 ·exact absurd (hx.trans hy.symm) (h.2.2 i j h1 hj)
 ·by_cases h2 : j < i
  ·exact absurd (hy.trans hx.symm) (h.2.2 j i h2 hi)
  ·omega
theorem OrdP.ord {n : Nat} {O : NI} (h : OrdP n O) : Ord8 n (fun i => (O i).toNat) := (zet h.once).2
theorem ordP_of_once {n : Nat} {O : NI} (hn : 0 < n) (h : ∀ k, k < n -> ordK8 O (k : Nat) n = 1) : OrdP n O := by
 obtain ⟨h1, h2⟩ := zet h
 refine ⟨hn, h1, fun i j hij hj he => ?_⟩
 have := h2.inj i j (by omega) hj (by show (O i).toNat = (O j).toNat; rw [he])
 omega
theorem OrdP.cast {n : Nat} {O : NI} (h : OrdP n O) {i : Nat} (hi : i < n) : (((O i).toNat : Nat) : Int) = O i := by
 have := h.2.1 i hi; omega
def packL (F : NI) : Nat -> List Int
 | 0 => []
 | i + 1 => packL F i ++ zap (F i) 8
theorem zar (F : NI) : ∀ n, (packL F n).length = 8 * n
 | 0 => rfl
 | n + 1 => by
  show (packL F n ++ zap (F n) 8).length = _
  rw [List.length_append, zar F n, zal]
  omega
theorem zfr (F : NI) : ∀ n, Bts (packL F n)
 | 0 => fun x hx => by cases hx
 | n + 1 => zdv (zfr F n) (zbt _ _)
theorem zaJ (b : OA) (n cap : Nat) (F : NI) (w : World) (hn : n <= 1000) (h : FacsIn w b n F) :
  Calls prog 130 #[.slice b n cap] w fun e w' => e = .returned (.string (strOfNums (packL F n))) /\ Old w w' := by
 have HX : Hid (FacsIn w b n F) := h
 have HBy : Hid (∀ i wx, i < n -> Calls prog 148 #[.int .u64 (F i), .int .i64 8] wx fun e w' => e = .returned (.string (strOfNums (zap (F i) 8))) /\ Old wx w') := fun i wx hi => (zcn (F i) 8 wx (h.u64 i hi).1 (h.u64 i hi).2 (by omega) (by omega)).mono fun e w' ⟨h1, h2⟩ => ⟨h1, Old.ofBelow h2⟩
 clear h
 have hadd : ∀ xs ys : List Int, strOfNums xs ++ strOfNums ys = strOfNums (xs ++ ys) := zc0
 have hsz : ∀ xs : List Int, (strOfNums xs).size = xs.length := strOfNums_size
 go_enter func130, ntmps130
 go_wp2_with fail
 go_loopw [3, 4] (fun sv iv wx => ∃ i : Nat, iv = .int .i64 (i : Int) /\ i <= n /\ sv = .string (strOfNums (packL F i)) /\ Hid (Old w wx)) (fun _ iv _ => n - (intOf iv).toNat)
 case atStart => exact ⟨0, rfl, Nat.zero_le _, rfl, Old.refl _⟩
 case round =>
  obtain ⟨i, rfl, hi, rfl, HO⟩ := hrel
  by_cases hlt : i < n
  ·rcases HX.out.old HO.out with h0 | ⟨bx, ox, hqx, _, hrx⟩
   ·omega
   have cx := (hrx i hlt).1
   clear hrx
   subst hqx
   have HC : Hid (∀ wx, Calls prog 148 #[.int .u64 (F i), .int .i64 8] wx fun e w' => e = .returned (.string (strOfNums (zap (F i) 8))) /\ Old wx w') := fun wx => HBy.out i wx hlt
   have zl := zar F i
   have z8 := zal (F i) 8
   have l1 : 8 * i + 8 <= 9223372036854775807 := by omega
   have l2 : ¬ 9223372036854775807 < 8 * i + 8 := by omega
   have l3 : 8 * i <= 9223372036854775799 := by omega
   have l4 : ¬ 9223372036854775799 < 8 * i := by omega
   have HP : Hid (packL F (i + 1) = packL F i ++ zap (F i) 8) := rfl
   go_wp2_with (go_at_call 148; refine (HC.out _).mono ?_; rintro e w2 ⟨rfl, o2⟩)
   go_roundw
   case rel => exact ⟨i + 1, by first | exact zab i | exact zdd i, by omega, by rw [HP.out], HO.out.trans o2⟩
   case measure => simp [intOf]; omega
  ·have he : n = i := by omega
   subst he
   go_wp2_with fail
   go_ret
   exact ⟨rfl, HO.out⟩
def four4 (P Q G H : Int) : Nat -> Int
 | 0 => P
 | 1 => Q
 | 2 => G
 | _ => H
def partS (P Q G H : Int) (nt : Nat) (T : NI) (nb : Nat) (L : Nat -> Nat) (B : NN) (nk : Nat) (K : NI) : Nat -> List Int
 | 0 => packL (four4 P Q G H) 4
 | 1 => packL T nt
 | i + 2 => if i < nb then packL (B i) (L i) else packL K nk
def chI (label : List Int) (P Q G H : Int) (nt : Nat) (T : NI) (nb : Nat) (L : Nat -> Nat) (B : NN) (nk : Nat) (K : NI) : Int := zaj label (partS P Q G H nt T nb L B nk K) (nb + 3) Q
theorem partS_bd (P Q G H : Int) (nt : Nat) (T : NI) (nb : Nat) (L : Nat -> Nat) (B : NN) (nk : Nat) (K : NI) : ∀ i, Bts (partS P Q G H nt T nb L B nk K i)
 | 0 => zfr _ _
 | 1 => zfr _ _
 | i + 2 => by
  show Bts (if i < nb then packL (B i) (L i) else packL K nk)
  split <;> exact zfr _ _
theorem partS_len (P Q G H : Int) {nt : Nat} (T : NI) {nb : Nat} {L : Nat -> Nat} (B : NN) {nk : Nat} (K : NI) (h1 : nt <= 80) (h2 : ∀ j, j < nb -> L j <= 80) (h3 : nk <= 80) : ∀ i, (partS P Q G H nt T nb L B nk K i).length <= 640
 | 0 => by show (packL (four4 P Q G H) 4).length <= 640; rw [zar]; omega
 | 1 => by show (packL T nt).length <= 640; rw [zar]; omega
 | i + 2 => by
  show (if i < nb then packL (B i) (L i) else packL K nk).length <= 640
  split
  ·rename_i h; rw [zar]; have := h2 i h; omega
  ·rw [zar]; omega
theorem numL_le {label : List Int} {S : Nat -> List Int} (h : ∀ i, (S i).length <= 640) : ∀ n, (numL label S n).length <= 8 + label.length + 648 * n
 | 0 => by show (zap label.length 8 ++ label).length <= _; rw [List.length_append, zal]; omega
 | n + 1 => by rw [zbm]; have := numL_le (label := label) h n; have := h n; omega
theorem partS_row {P Q G H : Int} {nt : Nat} {T : NI} {nb : Nat} {L : Nat -> Nat} {B : NN} {nk : Nat} {K : NI} {i : Nat} (h : i < nb) : partS P Q G H nt T nb L B nk K (i + 2) = packL (B i) (L i) := if_pos h
theorem ze5 {P Q G H : Int} {nt : Nat} {T : NI} {nb : Nat} {L : Nat -> Nat} {B : NN} {nk : Nat} {K : NI} : partS P Q G H nt T nb L B nk K (nb + 2) = packL K nk := if_neg (Nat.lt_irrefl _)
theorem facs_four (w : World) (P Q G H : Int) (t : TypeId) (h4 : Four P Q G H) : FacsIn (w.alloc (.cells #[.int .u64 P, .int .u64 Q, .int .u64 G, .int .u64 H] t)) (some ⟨w.heap.size, 0, none⟩) 4 (four4 P Q G H) := by
 refine Or.inr ⟨_, _, rfl, by simp, fun j hj => ?_⟩
 match j, hj with
 | 0, _ => exact ⟨(World.cell?_alloc_mark w _ t (0, 0) 0).trans rfl, h4.p0, h4.p1⟩
 | 1, _ => exact ⟨(World.cell?_alloc_mark w _ t (0, 0) 1).trans rfl, h4.q0, h4.q1⟩
 | 2, _ => exact ⟨(World.cell?_alloc_mark w _ t (0, 0) 2).trans rfl, h4.g0, h4.g1⟩
 | 3, _ => exact ⟨(World.cell?_alloc_mark w _ t (0, 0) 3).trans rfl, h4.h0, h4.h1⟩
theorem Old.drewAlloc (w : World) (o : Obj) : Old (w.alloc o) (w.drew.alloc o) := ⟨rfl, rfl, Nat.le_refl _, fun _ _ => rfl⟩
theorem make8_run (n : Nat) (h : n <= 1000) (w : World) : (Instr.makeSlice 152 (.int .i64 0) (.int .i64 (8 * (n : Int)))).run prog w = .ok (.slice (some ⟨w.heap.size, 0, none⟩) 0 (8 * n)) (w.alloc (.cells (madeCells #[Value.int .u8 0] (8 * n)) 5)) := by
 obtain ⟨i, hi, hzz⟩ := Option.map_eq_some_iff.1 zeP
 simp only [Prod.mk.injEq] at hzz
 obtain ⟨hz, hs, hb⟩ := hzz
 have hr := run_make (P := prog) w 152 5 i (.int .u8 0) U152 hi hz .i64 .i64 0 (8 * (n : Int)) (Int.le_refl _) (by omega) (by rw [hb]; omega) (by omega)
 have e : (8 * (n : Int)).toNat = 8 * n := by omega
 rw [e, hs, Nat.mul_one] at hr
 exact hr
set_option linter.unusedSimpArgs false in
theorem zcA (b : OA) (n cap : Nat) (F : NI) (w : World) (hn : n <= 1000) (h : FacsIn w b n F) :
  Calls prog 147 #[.slice b n cap] w fun e w' => e = .returned (.string (strOfNums (packL F n))) /\ Old w w' := by
 obtain ⟨i0, hi0, hz0, hz1, hz2⟩ := info_parts zeP
 have HX : Hid (FacsIn w b n F) := h
 have hmk : ∀ wx, (Instr.makeSlice 152 (.int .i64 0) (.int .i64 (8 * (n : Int)))).run prog wx = .ok (.slice (some ⟨wx.heap.size, 0, none⟩) 0 (8 * n)) (wx.alloc (.cells (madeCells #[Value.int .u8 0] (8 * n)) 5)) := make8_run n hn
 clear h
 have HO0 : Hid ((w.alloc (.cells (madeCells #[Value.int .u8 0] (8 * n)) 5)).ownsRow w.heap.size 5 1 (.slice (some ⟨w.heap.size, 0, none⟩) 0 (8 * n)) 0 []) := World.ownsRow_made w _ (8 * n) (Nat.le_refl _) (by unfold maxLen; omega) (by rw [size_madeCells]; omega)
 have HW0 : Hid (Old w (w.alloc (.cells (madeCells #[Value.int .u8 0] (8 * n)) 5))) := (Old.refl _).alloc _
 go_enter func147, ntmps147
 go_wp2_with fail
 go_loopw [3, 13] (fun v iv wx => ∃ i : Nat, iv = .int .i64 (i : Int) /\ i <= n /\ Hid (v ≠ .slice none 0 0) /\ Hid (wx.ownsRow w.heap.size 5 1 v (8 * i) ((packL F i).map (Value.int .u8))) /\ Hid (Old w wx)) (fun _ iv _ => n - (intOf iv).toNat)
 case atStart => exact ⟨0, rfl, Nat.zero_le _, (by unfold Hid; simp), HO0, HW0⟩
 case round =>
  obtain ⟨i, rfl, hi, HE, HV, HO⟩ := hrel
  by_cases hlt : i < n
  ·rcases HX.out.old HO.out with h0 | ⟨bx, ox, hqx, _, hrx⟩
   ·omega
   have cx := (hrx i hlt).1
   clear hrx
   subst hqx
   have HP : Hid (packL F (i + 1) = packL F i ++ zaY (F i) 8 8) := rfl
   generalize F i = x at *
   go_wp2_with fail
   go_loopw [3, 6] (fun v sv wx => ∃ j r : Nat, j + r = 8 /\ sv = .int .i64 (8 * (r : Int) - 8) /\ Hid (v ≠ .slice none 0 0) /\ Hid (wx.ownsRow w.heap.size 5 1 v (8 * i + j) ((packL F i ++ zaY x 8 j).map (Value.int .u8))) /\ Hid (Old w wx)) (fun _ sv _ => (intOf sv + 8).toNat)
   case atStart => exact ⟨0, 8, by omega, rfl, HE, by have := HV; unfold Hid at this ⊢; simpa [zaY] using this, HO⟩
   case round =>
    obtain ⟨j, r, hjr, rfl, HE2, HV2, HO2⟩ := hrel
    cases r with
    | zero =>
     obtain rfl : j = 8 := by omega
     have HV3 : Hid (wr.ownsRow w.heap.size 5 1 u3 (8 * (i + 1)) ((packL F (i + 1)).map (Value.int .u8))) := by rw [HP.out]; exact HV2
     go_wp2_with fail
     go_roundw
     case rel => exact ⟨i + 1, zab i, by omega, HE2, HV3, HO2⟩
     case measure => simp [intOf]; omega
    | succ q =>
     have eq : (8 : Int) * ((q + 1 : Nat) : Int) - 8 = ((8 * q : Nat) : Int) := by omega
     simp only [eq]
     clear eq
     have hs := HO2.out.size
     have HB : Hid (zaY x 8 (j + 1) = zaY x 8 j ++ [zbk x q]) := by unfold Hid; rw [zc1, show 8 - 1 - j = q by omega]
     have q0 : (0 : Int) <= ((8 * q : Nat) : Int) := by omega
     have q1 : ((8 * q : Nat) : Int) < 64 := by omega
     go_wp2_with (at_builtin; refine wpList_append_own _ rfl _ _ 152 rfl w.heap.size 5 i0 (.int .u8 0) 1 1 U152 hi0 hz0 hz1 hz2 rfl (by decide) _ _ _ rfl (World.ownsRow.alloc HV2.out _) ⟨wr.heap.size, 0, none⟩ 1 1 [.int .u8 (zbk x q)] rfl rfl ?c1 ?c2 ?c3 ?c4 ?c5 ?_)
     case c1 => exact cell_one_new _ _ _
     case c2 => intro u hu; simp at hu; subst hu; rfl
     case c3 => unfold maxLen; omega
     case c4 => omega
     case c5 => simp; omega
     intro v' w1 hown' hgrow hne
     have HE3 : Hid (v' ≠ .slice none 0 0) := hne
     clear hne
     have HO3 : Hid (Old w w1) := zcj HO2.out HV2.out hgrow
     have HV3 : Hid (w1.ownsRow w.heap.size 5 1 v' (8 * i + (j + 1)) ((packL F i ++ zaY x 8 (j + 1)).map (Value.int .u8))) := by
      rw [HB.out]
      simp only [List.map_append, List.map_cons, List.map_nil, List.append_assoc] at hown' ⊢
      exact hown'
     clear hown' hgrow
     go_wp2_with fail
     go_roundw
     case rel => exact ⟨j + 1, q, by omega, by first | rfl | (congr 1; omega), HE3, HV3, HO3⟩
     case measure => simp [intOf]; omega
  ·have he : n = i := by omega
   subst he
   have zl := zar F n
   have HC : Hid (∃ g c, u3 = .slice g (8 * n) c /\ (convert 152 9 (.slice g (8 * n) c)).run prog wr = .ok (.string (strOfNums (packL F n))) wr) := by
    rcases HV.out.2 with ⟨hv, _⟩ | ⟨g, c, cur, hv, _, _, _⟩
    ·exact absurd hv HE.out
    ·subst hv
     refine ⟨_, c, rfl, run_convert_bytes_arg wr 152 5 U152 U5 g 0 (8 * n) c (packL F n) zl (fun i hi => ?_) 9 U9⟩
     rw [Nat.zero_add, HV.out.cellAt i (by omega), List.getElem?_map, List.getD, List.getElem?_eq_getElem (by omega)]
     rfl
   obtain ⟨g, c, rfl, hcv⟩ := HC.out
   clear HV
   go_wp2_with fail
   go_ret
   exact ⟨rfl, HO.out⟩
def Bld (B b : Nat) (xs : List Int) (w : World) : Prop := Lib.IsBuilder 155 5 B b (Lib.byteCells (strOfNums xs).data.toList) w
theorem owns_old {w w' : World} {base : Nat} {e : TypeId} {size : Nat} {v : Value} {n : Nat} {xs : List Value} (h : w.ownsRow base e size v n xs) (ho : Old w w') : w'.ownsRow base e size v n xs := by
 refine ⟨h.1, ?_⟩
 rcases h.2 with h0 | ⟨g, cap, cur, hv, hg, hh, hr⟩
 ·exact Or.inl h0
 ·refine Or.inr ⟨g, cap, cur, hv, hg, ?_, hr⟩
  rw [ho.block g (Array.getElem?_eq_some_iff.1 hh).1]
  exact hh
theorem zd5 {T e : TypeId} {B b : Nat} {p : Value} {bs : List Value} {w w' : World} (h : Lib.BuilderAt T e B b p bs w) (ho : Old w w') : Lib.BuilderAt T e B b p bs w' := by
 obtain ⟨hB, v, hb, hown, hne⟩ := h
 exact ⟨hB, v, by rw [ho.block b (Array.getElem?_eq_some_iff.1 hb).1]; exact hb, owns_old hown ho, hne⟩
theorem Bld.old {B b : Nat} {xs : List Int} {w w' : World} (h : Bld B b xs w) (ho : Old w w') : Bld B b xs w' :=
 h.imp (fun h => zd5 h ho) (fun h => zd5 h ho)
theorem Bld.new (w : World) : Bld w.heap.size w.heap.size [] (w.alloc (.cells #[.pointer none, .slice none 0 0] 155)) := by
 refine Or.inl ⟨Nat.le_refl _, .slice none 0 0, ?_, ?_, ?_⟩
 ·exact heap_alloc_last w _
 ·exact World.ownsRow_nil _ _ _ _
 ·simp [Value.ownBlock]
theorem cells_app (xs ys : List Int) : Lib.byteCells (strOfNums xs).data.toList ++ Lib.strCells (strOfNums ys) = Lib.byteCells (strOfNums (xs ++ ys)).data.toList := by
 unfold Lib.byteCells Lib.strCells
 rw [<- List.map_append]
 simp [strOfNums]
theorem cells_len (xs : List Int) : (Lib.byteCells (strOfNums xs).data.toList).length = xs.length := by
 unfold Lib.byteCells
 rw [List.length_map, Array.length_toList]
 exact strOfNums_size xs
theorem zd4 (B b : Nat) (xs ys : List Int) (w : World) (h : Bld B b xs w) (hlen : xs.length + ys.length <= 1000000000) (hB : B <= w.heap.size) :
  Calls prog 142 #[.pointer (some ⟨b, 0, none⟩), .string (strOfNums ys)] w fun e w' => e = .returned (.tuple #[.int .i64 (ys.length : Int), .nilIface]) /\ Bld B b (xs ++ ys) w' /\ Below B w w' := by
 have h1 := Any.Builder_WriteString (P := prog) (ρ := Tryz.lays105_ren) { Tryz.lays105 with } Tryz.Builder_Extra_105 B b (Lib.byteCells (strOfNums xs).data.toList) (strOfNums ys) w h (by rw [cells_len, strOfNums_size]; omega) hB
 refine h1.mono ?_
 rintro e w' ⟨rfl, hb, hbel⟩
 refine ⟨by rw [strOfNums_size], Or.inr ?_, hbel⟩
 rw [<- cells_app]
 exact hb
theorem zgd (B b : Nat) (xs : List Int) (w : World) (h : Bld B b xs w) (hB : B <= w.heap.size) :
  Calls prog 145 #[.pointer (some ⟨b, 0, none⟩)] w fun e w' => e = .returned (.string (strOfNums xs)) /\ Below B w w' :=
 Tryz.Builder_String_any B b (strOfNums xs).data.toList w h hB
theorem Old.thenBelow {a c d : World} {B : Nat} (h : Old a c) (hB : a.heap.size <= B) (hb : Below B c d) : Old a d :=
 ⟨hb.os.trans h.os, hb.output.trans h.output, Nat.le_trans h.size hb.size, fun k hk => (hb.block k (Nat.lt_of_lt_of_le hk hB)).trans (h.block k hk)⟩
theorem zey : ∀ c : Nat, Lib.repeatL [0] c = (List.replicate c (0 : Int)).map (fun n => UInt8.ofNat n.toNat)
 | 0 => rfl
 | c + 1 => by
  show [0] ++ Lib.repeatL [0] c = _
  rw [zey c]
  rfl
theorem drepeat_any (c : Nat) (w : World) (hc : c <= 1000000) :
  Calls prog 162 #[.string ⟨#[0]⟩, .int .i64 (c : Int)] w fun e w' => e = .returned (.string (strOfNums (List.replicate c 0))) /\ Old w w' := by
 refine (Tryz.strings_Repeat ⟨#[0]⟩ c w (by omega) (by show 1 * c <= _; omega)).mono ?_
 rintro e w' ⟨rfl, hb⟩
 refine ⟨?_, Old.ofBelow hb⟩
 rw [zey]
 rfl
def endL (n : Nat) : List Int := [128] ++ List.replicate (zeros n) 0 ++ zap ((n : Int) * 8) 8
theorem endL_len (n : Nat) : (endL n).length = 1 + zeros n + 8 := by
 simp [endL, zal]
 omega
theorem int_u64 (q : Nat) (h : q <= 1000) : Value.int .u64 (IntKind.u64.wrap (q : Int)) = .int .u64 (q : Int) := by
 rw [IntKind.wrap_u64]
 congr 1
 omega
theorem spf_any (P Q G H : Int) (a : OA) (n cap : Nat) (ba : OA) (na ca : Nat) (X : Int) (bb : OA) (nb cb : Nat) (Y Z : Int) (bp : OA) (np cp m : Nat) (w : World) (hm : m <= 100) (hX : U64 X) (hY : U64 Y) (hZ : U64 Z) :
  Calls prog 121 #[gv P Q G H a n cap, tk ba na ca X bb nb cb Y Z bp np cp, .int .i64 (m : Int)] w (Ret w (.int .u64 (prodI Q (kF Q X Y Z) m))) := by
 have HF := hid fun i wx (hi : i < m) => zcX P Q G H a n cap ba na ca X bb nb cb Y Z bp np cp ((i + 1 : Nat) : Int) wx hX hY hZ ⟨by omega, by omega⟩
 have HFu : Hid (∀ i, U64 (kF Q X Y Z i)) := fun i => by unfold kF subI; exact ⟨(zec _ _ _).1, Int.le_trans (zec _ _ _).2 (by decide)⟩
 have HZ := lain2 w (gc P Q G H a n cap) (tkc ba na ca X bb nb cb Y Z bp np cp) 25 41
 have HG0 := fun w' ho => (HZ.then (W' := w') ho).row 0 (by simp)
 have HT0 := fun w' ho => (HZ.then (W' := w') ho).row 1 (by simp)
 have HW0 := hid HZ.old
 clear HZ hX hY hZ
 go_enter func121, ntmps121
 go_upto_region 1 with fail
 generalize (w.alloc (.cells (gc P Q G H a n cap) 25)).alloc (.cells (tkc ba na ca X bb nb cb Y Z bp np cp) 41) = W at *
 have HG := hid HG0
 have HT := hid HT0
 clear HG0 HT0
 generalize w.heap.size = gb at *
 go_upto_region 3 with fail
 go_loopw [7, 8] (fun v iv wx => ∃ i : Nat, iv = .int .i64 ((i + 1 : Nat) : Int) /\ i <= m /\ v = .int .u64 (prodI Q (kF Q X Y Z) i) /\ Hid (Old W wx)) (fun _ iv _ => m + 1 - (intOf iv).toNat)
 case atStart => exact ⟨0, rfl, by omega, rfl, Old.refl _⟩
 case round =>
  obtain ⟨i, rfl, hi, rfl, HO⟩ := hrel
  by_cases hlt : i < m
  ·have hlt' : i + 1 <= m := hlt
   have HGr := hid fun wx (hx : Old wr wx) => HG.out _ (HO.out.trans hx)
   have HTr := hid fun wx (hx : Old wr wx) => HT.out _ (HO.out.trans hx)
   have HFi : Hid (∀ wx, Calls prog 66 #[gv P Q G H a n cap, tk ba na ca X bb nb cb Y Z bp np cp, .int .u64 ((i + 1 : Nat) : Int)] wx (Ret wx (.int .u64 (kF Q X Y Z i)))) := fun wx => HF.out i wx hlt
   have HPu : Hid (U64 (prodI Q (kF Q X Y Z) i)) := zaL _ _ _
   go_upto_region 5 with fail
   refine zaa 9 [.k (.int .u64 (prodI Q (kF Q X Y Z) i)), .k (gv P Q G H a n cap), .k (tk ba na ca X bb nb cb Y Z bp np cp), .k (.int .i64 ((i + 1 : Nat) : Int)), .k (.int .u64 ((i + 1 : Nat) : Int)), .k (.int .u64 (kF Q X Y Z i)), .k (.pointer (some ⟨gb, 1, none⟩)), .k (.int .u64 Q), .k (.int .u64 (mulI (prodI Q (kF Q X Y Z) i) (kF Q X Y Z i) Q))] (Old wr) (by kernel_rfl) (by kernel_rfl) rfl ((Old.refl _).drew) ?st ?_
   case st =>
    refine .p <| .c (sts U25 HGr.out) <| .c (sts U41 HTr.out) <| .p <| .c (stv (v' := .int .u64 (IntKind.u64.wrap ((i + 1 : Nat) : Int))) (int_u64 (i + 1) (by omega))) <| .c (stK old_R func66 (fun wx _ => HFi.out wx)) <| .p <| .c (stf 1 U22 HGr.out) <| .c (stK old_R func72 (fun wx _ => zde _ _ Q HPu.out (HFu.out i) wx)) .n
   intro t wx hR hk
   simp only [fill, Ent.val, Ls0, Ls1, Ld1, Ld0, Ldn]
   have HN := hid (HO.out.trans hR)
   clear hR hk HO HGr HTr HFi HPu
   go_wp2_with fail
   go_roundw
   case rel => exact ⟨i + 1, zab (i + 1), by omega, rfl, HN⟩
   case measure => simp [intOf]; omega
  ·have he : m = i := by omega
   subst he
   have HE := hid (HW0.out.trans HO.out)
   go_wp2_with fail
   go_ret
   exact ⟨by rfl, HE.out⟩
end
end Go.Proofs.YtlnmjbbpenhdbaaGreat
