/-
  What the proof needs, part 8.
-/
import Derived.Test.YtlnmjbbpenhdbaaGreatKp07
namespace Go.Proofs.YtlnmjbbpenhdbaaGreat
open Tryz
open List renaming set_cons_zero → zs0, set_cons_succ → zs1, drop_succ_cons → zd1, drop_zero → zd0, drop_nil → zdn
open Tryz renaming underlying22 → U22, underlying25 → U25, underlying26 → U26, underlying28 → U28, underlying29 → U29, underlying63 → U63, underlying69 → U69, underlying74 → U74, underlying127 → U127
set_option linter.unusedSimpArgs false
set_option linter.unusedVariables false
set_option maxRecDepth 100000
set_option maxHeartbeats 32000000
section
open Go.RowKit
def Ret (w : World) (v : Value) (e : Ending) (w' : World) : Prop := e = .returned v /\ Old w w'
theorem prod7 {P Q G : Int} (h : Righ P Q G) (x y : Int) : prodI P (two7 x y) 2 = mulI x y P := prod_two h.ok rfl rfl
theorem gprod7 (P Q G H : Int) (a : OA) (n cap : Nat) (x y : Int) (h4 : Four P Q G H) (hr : Righ P Q G) (hx : U64 x) (hy : U64 y) {b base : Nat} {wx : World} (hN : Nums wx base (.slice (some ⟨b, 0, none⟩) 2 2) 2 (two7 x y)) : Calls prog 64 #[gv P Q G H a n cap, .slice (some ⟨b, 0, none⟩) 2 2] wx (Ret wx (.int .u64 (mulI x y P))) := by
 obtain ⟨_, _, e, _, hf⟩ := hN.facs (fun i _ => u64_two hx hy i)
 cases e
 exact (zcl P Q G H a n cap _ 2 2 _ _ h4 hr (by decide) (by decide) hf).mono fun r w' ⟨h, k⟩ => ⟨by rw [h, prod7 hr], k⟩
def two8 (base : Nat) (x y : Int) : Ent := .u (fun v w => ∃ b, v = .slice (some ⟨b, 0, none⟩) 2 2 /\ Nums w base v 2 (two7 x y)) fun _ _ _ ⟨b, e, h⟩ ho => ⟨b, e, h.old ho⟩
theorem zep (P Q G H : Int) (a : OA) (n cap : Nat) (m r : Int) (w : World) (h4 : Four P Q G H) (hr : Righ P Q G) (hm : U64 m) (hrr : U64 r) :
  Calls prog 59 #[gv P Q G H a n cap, .int .u64 m, .int .u64 r] w (Ret w (.int .u64 (comI P Q G H m r))) := by
 have HZ := lain1 w (gc P Q G H a n cap) 25
 have HT0 := fun w' ho => (HZ.then (W' := w') ho).row 0 (by simp)
 have HW0 := HZ.old
 go_enter func59, ntmps59
 go_upto_region 1 with fail
 generalize w.alloc (.cells (gc P Q G H a n cap) 25) = W at *
 have HG : ∀ wx, Old W wx -> wx.heap[w.heap.size]? = some (.cells (gc P Q G H a n cap) 25 (0, 0)) := HT0
 refine zaa 14 [.k (gv P Q G H a n cap), .k (gv P Q G H a n cap), .k (.pointer (some ⟨w.heap.size, 2, none⟩)), .k (.int .u64 G), .k (.int .u64 m), .k (.int .u64 (expI P Q G m)), .k (gv P Q G H a n cap), .k (.pointer (some ⟨w.heap.size, 3, none⟩)), .k (.int .u64 H), .k (.int .u64 r), .k (.int .u64 (expI P Q H r)), two8 W.heap.size (expI P Q G m) (expI P Q H r), .k (.int .u64 (comI P Q G H m r)), .k (.int .u64 (comI P Q G H m r))] (Old W) (by kernel_rfl) (by kernel_rfl) rfl (Old.refl _).drew ?st ?_
 case st =>
  refine .c (sts U25 HG) <| .c (sts U25 HG) <| .p <| .c (stf 2 U22 HG) <| .p <| .c (stK old_R func65 fun wx _ => za8 P Q G H G m a n cap wx h4 hr h4.g0 h4.g1 hm.1 hm.2) <| .c (sts U25 HG) <| .p <| .c (stf 3 U22 HG) <| .p <| .c (stK old_R func65 fun wx _ => za8 P Q G H H r a n cap wx h4 hr h4.h0 h4.h1 hrr.1 hrr.2) <| .c (stm (ob := fun _ => .cells #[.int .u64 (expI P Q G m), .int .u64 (expI P Q H r)] 22) (v := fun s => .slice (some ⟨s, 0, none⟩) 2 2) old_R fun t wx hR _ => ⟨_, rfl, zbG wx W.heap.size 2 [.int .u64 (expI P Q G m), .int .u64 (expI P Q H r)] (two7 (expI P Q G m) (expI P Q H r)) hR.size (by omega) rfl⟩) <| .c (stC (args := fun t => #[gv P Q G H a n cap, t 11]) old_R func64 fun t wx _ hd => ?_) <| .c stp .n
  obtain ⟨b, e, hN⟩ := hd 11 (by kernel_rfl)
  rw [e] at hN ⊢
  exact (gprod7 P Q G H a n cap _ _ h4 hr (zaz _ _ _ _) (zaz _ _ _ _) hN).mono fun r w' ⟨h, k⟩ => ⟨_, h, k, rfl⟩
 intro t wx hR hk
 simp only [fill, Ent.val, two8, zs0, zs1, zd1, zd0, zdn]
 go_wp2_with fail
 go_ret
 exact ⟨rfl, HW0.trans hR⟩
abbrev tk (ba : OA) (na ca : Nat) (X : Int) (bb : OA) (nb cb : Nat) (Y Z : Int) (bp : OA) (np cp : Nat) : Value := .agg #[.slice ba na ca, .int .u64 X, .slice bb nb cb, .int .u64 Y, .int .u64 Z, .slice bp np cp]
abbrev tkc (ba : OA) (na ca : Nat) (X : Int) (bb : OA) (nb cb : Nat) (Y Z : Int) (bp : OA) (np cp : Nat) : Array Value := #[.slice ba na ca, .int .u64 X, .slice bb nb cb, .int .u64 Y, .int .u64 Z, .slice bp np cp]
theorem zcT (P Q G H : Int) (a : OA) (n cap : Nat) (ba : OA) (na ca : Nat) (A : NI) (X : Int) (bb : OA) (nb cb : Nat) (B : NI) (Y Z : Int) (bp : OA) (np cp i : Nat) (w : World) (h4 : Four P Q G H) (hr : Righ P Q G) (hY : U64 Y) (hZ : U64 Z) (hA : FacsIn w ba na A) (hB : FacsIn w bb nb B) (ha : i < na) (hb : i < nb) :
  Calls prog 63 #[gv P Q G H a n cap, tk ba na ca X bb nb cb Y Z bp np cp, .int .i64 (i : Int)] w (Ret w (.int .u64 (bigI P Q G (A i) (B i) Y Z))) := by
 have uA := hA.u64 i ha
 have uB := hB.u64 i hb
 have uM := zaI (expI P Q (A i) Y) (B i) P
 have iG := hr.exp_in hr.gin (e := Z)
 rcases hA with h0 | ⟨ba, oa, rfl, _, hra⟩
 ·omega
 rcases hB with h0 | ⟨bb, ob, rfl, _, hrb⟩
 ·omega
 have HZ := lain2 w (gc P Q G H a n cap) (tkc (some ⟨ba, oa, none⟩) na ca X (some ⟨bb, ob, none⟩) nb cb Y Z bp np cp) 25 41
 have HG0 := fun w' ho => (HZ.then (W' := w') ho).row 0 (by simp)
 have HT0 := fun w' ho => (HZ.then (W' := w') ho).row 1 (by simp)
 have HA0 := fun w' ho => (HZ.old.trans (c := w') ho).cellOf (hra i ha).1
 have HB0 := fun w' ho => (HZ.old.trans (c := w') ho).cellOf (hrb i hb).1
 have HW0 := HZ.old
 clear hra hrb HZ
 go_enter func63, ntmps63
 go_upto_region 1 with fail
 generalize ((w.alloc (.cells (gc P Q G H a n cap) 25)).alloc (.cells (tkc (some ⟨ba, oa, none⟩) na ca X (some ⟨bb, ob, none⟩) nb cb Y Z bp np cp) 41)) = W at *
 have HG : ∀ wx, Old W wx -> wx.heap[w.heap.size]? = some (.cells (gc P Q G H a n cap) 25 (0, 0)) := HG0
 have HT : ∀ wx, Old W wx -> wx.heap[w.heap.size + 1]? = some (.cells (tkc (some ⟨ba, oa, none⟩) na ca X (some ⟨bb, ob, none⟩) nb cb Y Z bp np cp) 41 (0, 0)) := HT0
 have HA : ∀ wx, Old W wx -> wx.cell? ⟨ba, oa + i, none⟩ = some (.int .u64 (A i)) := HA0
 have HB : ∀ wx, Old W wx -> wx.cell? ⟨bb, ob + i, none⟩ = some (.int .u64 (B i)) := HB0
 refine zaa 26 [.k (gv P Q G H a n cap), .k (gv P Q G H a n cap), .k (gv P Q G H a n cap), .k (.pointer (some ⟨w.heap.size + 1, 0, none⟩)), .k (.slice (some ⟨ba, oa, none⟩) na ca), .k (.int .i64 (i : Int)), .k (.pointer (some ⟨ba, oa + i, none⟩)), .k (.int .u64 (A i)), .k (.pointer (some ⟨w.heap.size + 1, 3, none⟩)), .k (.int .u64 Y), .k (.int .u64 (expI P Q (A i) Y)), .k (.pointer (some ⟨w.heap.size + 1, 2, none⟩)), .k (.slice (some ⟨bb, ob, none⟩) nb cb), .k (.int .i64 (i : Int)), .k (.pointer (some ⟨bb, ob + i, none⟩)), .k (.int .u64 (B i)), two8 W.heap.size (expI P Q (A i) Y) (B i), .k (.int .u64 (mulI (expI P Q (A i) Y) (B i) P)), .k (gv P Q G H a n cap), .k (.pointer (some ⟨w.heap.size, 2, none⟩)), .k (.int .u64 G), .k (.pointer (some ⟨w.heap.size + 1, 4, none⟩)), .k (.int .u64 Z), .k (.int .u64 (expI P Q G Z)), .k (.int .u64 (bigI P Q G (A i) (B i) Y Z)), .k (.int .u64 (bigI P Q G (A i) (B i) Y Z))] (Old W) (by kernel_rfl) (by kernel_rfl) rfl ((Old.refl _).drew) ?st ?_
 case st =>
  refine .c (sts U25 HG) <| .c (sts U25 HG) <| .c (sts U25 HG) <| .p <| .c (stf 0 U29 HT) <| .p <| .c (sti (c := ca) ha U29) <| .c (stl U22 HA) <| .p <| .c (stf 3 U22 HT) <| .c (stK old_R func65 (fun wx _ => za8 P Q G H (A i) Y a n cap wx h4 hr uA.1 uA.2 hY.1 hY.2)) <| .p <| .c (stf 2 U29 HT) <| .p <| .c (sti (c := cb) hb U29) <| .c (stl U22 HB) <| .c (stm (ob := fun t => .cells #[.int .u64 (expI P Q (A i) Y), .int .u64 (B i)] 22) (v := fun s => .slice (some ⟨s, 0, none⟩) 2 2) old_R fun t wx hR hd => ⟨_, rfl, zbG wx W.heap.size 2 [.int .u64 (expI P Q (A i) Y), .int .u64 (B i)] (two7 (expI P Q (A i) Y) (B i)) hR.size (by omega) rfl⟩) <| .c (stC (args := fun t => #[gv P Q G H a n cap, t 16]) old_R func64 fun t wx hR hd => ?_) <| .c (sts U25 HG) <| .p <| .c (stf 2 U22 HG) <| .p <| .c (stf 4 U22 HT) <| .c (stK old_R func65 (fun wx _ => za8 P Q G H G Z a n cap wx h4 hr h4.g0 h4.g1 hZ.1 hZ.2)) <| .c (stK old_R func99 (fun wx _ => gover_any P Q G H a n cap _ _ wx h4 hr uM iG)) <| .c stp .n
  obtain ⟨b, e, hN⟩ := hd 16 (by kernel_rfl)
  rw [e] at hN ⊢
  exact (gprod7 P Q G H a n cap _ _ h4 hr (zaz _ _ _ _) uB hN).mono fun r w' ⟨h, k⟩ => ⟨_, h, k, rfl⟩
 intro t wx hR hk
 simp only [fill, Ent.val, two8, zs0, zs1, zd1, zd0, zdn]
 go_wp2_with fail
 go_ret
 exact ⟨rfl, HW0.trans hR⟩
end
section
open Go.RowKit
section
variable (P Q G H X Y Z y : Int) (n : Nat) (o : Nat -> Nat) (R S T : NI) (Rho : NN)
def bE (i : Nat) : Int := powI X ((o i : Int) + 1) Q
def dE (i : Nat) : Int := subI (addI (mulI Y ((o i : Int) + 1) Q) (bE Q X o i) Q) Z Q
def uE (i : Nat) : Int := addI (mulI Y (R i) Q) (S i) Q
def vE : Nat -> Int
 | 0 => uE Q Y R S 0
 | i + 1 => addI (mulI (vE i) (dE Q X Y Z o (i + 1)) Q) (T (i + 1)) Q
def rhoE (w : Nat) : Nat -> Int
 | 0 => 0
 | i + 1 => subI (rhoE w i) (mulI (bE Q X o i) (Rho i w) Q) Q
def exF (k : Nat) : Int :=
 if k < n then ((o k : Int) + 1) % Q
 else if k < 2 * n then R (k - n) % Q
 else if k < 3 * n then bE Q X o (k - 2 * n)
 else if k < 4 * n then S (k - 3 * n) % Q
 else if k < 5 * n then dE Q X Y Z o (k - 4 * n)
 else if k < 6 * n then uE Q Y R S (k - 5 * n)
 else if k < 7 * n - 1 then T (k - 6 * n + 1) % Q
 else if k = 7 * n - 1 then vE Q X Y Z o R S T (n - 1)
 else rhoE Q X o Rho (k - 7 * n) n
def kF (j : Nat) : Int := subI (addI (mulI Y ((j : Int) + 1) Q) (powI X ((j : Int) + 1) Q) Q) Z Q
end
theorem Righ.q1' {P Q G : Int} (h : Righ P Q G) : 0 < Q := by have := h.q0; omega
theorem zdK (a e m : Int) : 0 <= powI a e m := by
 unfold powI
 split
 ·rename_i hm
  unfold okM at hm
  simp only [Bool.and_eq_true, decide_eq_true_eq] at hm
  exact Int.emod_nonneg _ (by omega)
 ·exact Int.le_refl _
theorem vE_nn (Q X Y Z : Int) (o : Nat -> Nat) (R S T : NI) : ∀ i, 0 <= vE Q X Y Z o R S T i
 | 0 => (zbZ _ _ _).1
 | _ + 1 => (zbZ _ _ _).1
theorem rhoE_nn (Q X : Int) (o : Nat -> Nat) (Rho : NN) (w : Nat) : ∀ i, 0 <= rhoE Q X o Rho w i
 | 0 => Int.le_refl _
 | _ + 1 => zcS _ _ _
theorem zdI {Q X Y Z : Int} {n : Nat} {o : Nat -> Nat} {R S T : NI} {Rho : NN} (hQ : 0 < Q) (k : Nat) : 0 <= exF Q X Y Z n o R S T Rho k := by
 unfold exF
 repeat' split
 all_goals first
  | exact Int.emod_nonneg _ (by omega)
  | exact zdK _ _ _
  | exact zcS _ _ _
  | exact (zbZ _ _ _).1
  | exact vE_nn _ _ _ _ _ _ _ _ _
  | exact rhoE_nn _ _ _ _ _ _
theorem rhoE_sum {P Q G X : Int} (h : Righ P Q G) (o : Nat -> Nat) (Rho : NN) (w : Nat) : ∀ n, (sumI8 (fun i => bE Q X o i * Rho i w) n + rhoE Q X o Rho w n) % Q = 0
 | 0 => by show ((0 : Int) + 0) % Q = 0; rw [Int.add_zero, Int.zero_emod]
 | n + 1 => by
  have ih := rhoE_sum h (X := X) o Rho w n
  show (sumI8 (fun i => bE Q X o i * Rho i w) n + bE Q X o n * Rho n w + subI (rhoE Q X o Rho w n) (mulI (bE Q X o n) (Rho n w) Q) Q) % Q = 0
  rw [zb7 h.okq, zaw h.okq]
  have e1 : (sumI8 (fun i => bE Q X o i * Rho i w) n + bE Q X o n * Rho n w + (rhoE Q X o Rho w n - bE Q X o n * Rho n w % Q) % Q) % Q = (sumI8 (fun i => bE Q X o i * Rho i w) n + bE Q X o n * Rho n w + (rhoE Q X o Rho w n - bE Q X o n * Rho n w)) % Q := zbJ rfl ((zak _ _).trans (cong_sub rfl (zak _ _)))
  rw [e1, show sumI8 (fun i => bE Q X o i * Rho i w) n + bE Q X o n * Rho n w + (rhoE Q X o Rho w n - bE Q X o n * Rho n w) = sumI8 (fun i => bE Q X o i * Rho i w) n + rhoE Q X o Rho w n by omega]
  exact ih
theorem exF_a {Q X Y Z : Int} {n : Nat} {o : Nat -> Nat} {R S T : NI} {Rho : NN} {i : Nat} (hi : i < n) : exF Q X Y Z n o R S T Rho i = ((o i : Int) + 1) % Q := if_pos hi
theorem exF_r {Q X Y Z : Int} {n : Nat} {o : Nat -> Nat} {R S T : NI} {Rho : NN} {i : Nat} (hi : i < n) : exF Q X Y Z n o R S T Rho (n + i) = R i % Q := by
 unfold exF
 rw [if_neg (by omega), if_pos (by omega), show n + i - n = i by omega]
theorem exF_b {Q X Y Z : Int} {n : Nat} {o : Nat -> Nat} {R S T : NI} {Rho : NN} {i : Nat} (hi : i < n) : exF Q X Y Z n o R S T Rho (2 * n + i) = bE Q X o i := by
 unfold exF
 rw [if_neg (by omega), if_neg (by omega), if_pos (by omega), show 2 * n + i - 2 * n = i by omega]
theorem exF_s {Q X Y Z : Int} {n : Nat} {o : Nat -> Nat} {R S T : NI} {Rho : NN} {i : Nat} (hi : i < n) : exF Q X Y Z n o R S T Rho (3 * n + i) = S i % Q := by
 unfold exF
 rw [if_neg (by omega), if_neg (by omega), if_neg (by omega), if_pos (by omega), show 3 * n + i - 3 * n = i by omega]
theorem exF_d {Q X Y Z : Int} {n : Nat} {o : Nat -> Nat} {R S T : NI} {Rho : NN} {i : Nat} (hi : i < n) : exF Q X Y Z n o R S T Rho (4 * n + i) = dE Q X Y Z o i := by
 unfold exF
 rw [if_neg (by omega), if_neg (by omega), if_neg (by omega), if_neg (by omega), if_pos (by omega), show 4 * n + i - 4 * n = i by omega]
theorem exF_u {Q X Y Z : Int} {n : Nat} {o : Nat -> Nat} {R S T : NI} {Rho : NN} {i : Nat} (hi : i < n) : exF Q X Y Z n o R S T Rho (5 * n + i) = uE Q Y R S i := by
 unfold exF
 rw [if_neg (by omega), if_neg (by omega), if_neg (by omega), if_neg (by omega), if_neg (by omega), if_pos (by omega), show 5 * n + i - 5 * n = i by omega]
theorem exF_t {Q X Y Z : Int} {n : Nat} {o : Nat -> Nat} {R S T : NI} {Rho : NN} {i : Nat} (hi : i + 1 < n) : exF Q X Y Z n o R S T Rho (6 * n + i) = T (i + 1) % Q := by
 unfold exF
 rw [if_neg (by omega), if_neg (by omega), if_neg (by omega), if_neg (by omega), if_neg (by omega), if_neg (by omega), if_pos (by omega), show 6 * n + i - 6 * n = i by omega]
theorem exF_v {Q X Y Z : Int} {n : Nat} {o : Nat -> Nat} {R S T : NI} {Rho : NN} (hn : 0 < n) : exF Q X Y Z n o R S T Rho (7 * n - 1) = vE Q X Y Z o R S T (n - 1) := by
 unfold exF
 rw [if_neg (by omega), if_neg (by omega), if_neg (by omega), if_neg (by omega), if_neg (by omega), if_neg (by omega), if_neg (by omega), if_pos rfl]
theorem exF_w {Q X Y Z : Int} {n : Nat} {o : Nat -> Nat} {R S T : NI} {Rho : NN} (hn : 0 < n) (w : Nat) : exF Q X Y Z n o R S T Rho (7 * n + w) = rhoE Q X o Rho w n := by
 unfold exF
 rw [if_neg (by omega), if_neg (by omega), if_neg (by omega), if_neg (by omega), if_neg (by omega), if_neg (by omega), if_neg (by omega), if_neg (by omega), show 7 * n + w - 7 * n = w by omega]
def row28 (p : Nat) (x : Int) (q : Nat) (z : Int) : Nat -> Int := fun k => if k = p then x else if k = q then z else 1
def rowS8 (m n : Nat) (W : NI) (q : Nat) (z : Int) : Nat -> Int := fun k => if m <= k /\ k < m + n then W (k - m) else if k = q then z else 1
theorem Righ.row28 {P Q G x z t : Int} (h : Righ P Q G) {E : NI} {p q N : Nat} (hpq : p < q) (hq : q < N) (hx : inI P Q x = true) (hz : inI P Q z = true) (hE : ∀ k, 0 <= E k) (ht : inI P Q t = true) (hc : x ^ (E p).toNat * z ^ (E q).toNat % P = t % P) : imI P Q (row28 p x q z) E N = t := by
 have e1 : Go.Proofs.YtlnmjbbpenhdbaaGreat.row28 p x q z p = x := by simp [Go.Proofs.YtlnmjbbpenhdbaaGreat.row28]
 have e2 : Go.Proofs.YtlnmjbbpenhdbaaGreat.row28 p x q z q = z := by unfold Go.Proofs.YtlnmjbbpenhdbaaGreat.row28; rw [if_neg (by omega), if_pos rfl]
 exact h.row2 hpq hq (fun k _ h1 h2 => by unfold Go.Proofs.YtlnmjbbpenhdbaaGreat.row28; rw [if_neg h1, if_neg h2]) (by rw [e1]; exact hx) (by rw [e2]; exact hz) (fun k _ => hE k) ht (by rw [e1, e2]; exact hc)
theorem Righ.rowS8 {P Q G z t : Int} (h : Righ P Q G) {W E : NI} {m n q N : Nat} (hmq : m + n <= q) (hq : q < N) (hW : ∀ i, i < n -> inI P Q (W i) = true) (hz : inI P Q z = true) (hE : ∀ k, 0 <= E k) (ht : inI P Q t = true) (hc : pw W (fun i => E (m + i)) n * z ^ (E q).toNat % P = t % P) : imI P Q (rowS8 m n W q z) E N = t := by
 have e2 : Go.Proofs.YtlnmjbbpenhdbaaGreat.rowS8 m n W q z q = z := by unfold Go.Proofs.YtlnmjbbpenhdbaaGreat.rowS8; rw [if_neg (by omega), if_pos rfl]
 have e3 : ∀ i, i < n -> Go.Proofs.YtlnmjbbpenhdbaaGreat.rowS8 m n W q z (m + i) = W i := fun i hi => by unfold Go.Proofs.YtlnmjbbpenhdbaaGreat.rowS8; rw [if_pos (by omega), show m + i - m = i by omega]
 refine h.im_is8 N (fun k _ => ?_) (fun k _ => hE k) ht ?_
 ·unfold Go.Proofs.YtlnmjbbpenhdbaaGreat.rowS8
  split
  ·rename_i hk; exact hW _ (by omega)
  ·split
   ·exact hz
   ·exact h.one_in
 ·rw [pw_span hmq hq (fun k _ h1 h2 => by unfold Go.Proofs.YtlnmjbbpenhdbaaGreat.rowS8; rw [if_neg (by omega), if_neg h2]), e2, zdX n (fun i hi => ⟨e3 i hi, rfl⟩)]
  exact hc
end
section
open Go.RowKit
def facI (Q X Y Z j : Int) : Int := subI (addI (mulI Y j Q) (powI X j Q) Q) Z Q
theorem zbi (a e m : Int) : U64 (powI a e m) := ⟨(powI_bd _ _ _).1, Int.le_trans (powI_bd _ _ _).2 (by decide)⟩
theorem zba (a b m : Int) : U64 (addI a b m) := ⟨(zbZ _ _ _).1, Int.le_trans (zbZ _ _ _).2 (by decide)⟩
theorem zdf (x y Q : Int) (hx : U64 x) (hy : U64 y) (w : World) : Calls prog 72 #[.int .u64 x, .int .u64 y, .int .u64 Q] w (Ret w (.int .u64 (mulI x y Q))) := (zcU x y Q w hx.1 hx.2 hy.1 hy.2).mono fun r w' ⟨h, k⟩ => ⟨h, (Old.refl _).draws k⟩
theorem sadd_any (x y Q : Int) (hx : U64 x) (hy : U64 y) (w : World) : Calls prog 71 #[.int .u64 x, .int .u64 y, .int .u64 Q] w (Ret w (.int .u64 (addI x y Q))) := (zeg x y Q w hx.1 hx.2 hy.1 hy.2).mono fun r w' ⟨h, k⟩ => ⟨h, (Old.refl _).draws k⟩
theorem ssub_any (x y Q : Int) (hx : U64 x) (hy : U64 y) (w : World) : Calls prog 108 #[.int .u64 x, .int .u64 y, .int .u64 Q] w (Ret w (.int .u64 (subI x y Q))) := (sub_any x y Q w hx.1 hx.2 hy.1 hy.2).mono fun r w' ⟨h, k⟩ => ⟨h, (Old.refl _).draws k⟩
theorem zdS (x y Q : Int) (hx : U64 x) (hy : U64 y) (w : World) : Calls prog 61 #[.int .u64 x, .int .u64 y, .int .u64 Q] w (Ret w (.int .u64 (powI x y Q))) := (pow_any x y Q w hx.1 hx.2 hy.1 hy.2).mono fun r w' ⟨h, k⟩ => ⟨h, (Old.refl _).draws k⟩
theorem zcZ (P Q G H : Int) (a : OA) (n cap : Nat) (ba : OA) (na ca : Nat) (X : Int) (bb : OA) (nb cb : Nat) (Y Z : Int) (bp : OA) (np cp : Nat) (j : Int) (w : World) (hX : U64 X) (hY : U64 Y) (hZ : U64 Z) (hj : U64 j) :
  Calls prog 66 #[gv P Q G H a n cap, tk ba na ca X bb nb cb Y Z bp np cp, .int .u64 j] w (Ret w (.int .u64 (facI Q X Y Z j))) := by
 have HZ := lain2 w (gc P Q G H a n cap) (tkc ba na ca X bb nb cb Y Z bp np cp) 25 41
 have HG0 := fun w' ho => (HZ.then (W' := w') ho).row 0 (by simp)
 have HT0 := fun w' ho => (HZ.then (W' := w') ho).row 1 (by simp)
 have HW0 := HZ.old
 clear HZ
 go_enter func66, ntmps66
 go_upto_region 1 with fail
 generalize ((w.alloc (.cells (gc P Q G H a n cap) 25)).alloc (.cells (tkc ba na ca X bb nb cb Y Z bp np cp) 41)) = W at *
 have HG : ∀ wx, Old W wx -> wx.heap[w.heap.size]? = some (.cells (gc P Q G H a n cap) 25 (0, 0)) := HG0
 have HT : ∀ wx, Old W wx -> wx.heap[w.heap.size + 1]? = some (.cells (tkc ba na ca X bb nb cb Y Z bp np cp) 41 (0, 0)) := HT0
 refine zaa 16 [.k (.pointer (some ⟨w.heap.size + 1, 3, none⟩)), .k (.int .u64 Y), .k (.int .u64 j), .k (.pointer (some ⟨w.heap.size, 1, none⟩)), .k (.int .u64 Q), .k (.int .u64 (mulI Y j Q)), .k (.pointer (some ⟨w.heap.size + 1, 1, none⟩)), .k (.int .u64 X), .k (.int .u64 j), .k (.pointer (some ⟨w.heap.size, 1, none⟩)), .k (.int .u64 Q), .k (.int .u64 (powI X j Q)), .k (.pointer (some ⟨w.heap.size, 1, none⟩)), .k (.int .u64 Q), .k (.int .u64 (addI (mulI Y j Q) (powI X j Q) Q)), .k (.int .u64 (addI (mulI Y j Q) (powI X j Q) Q))] (Old W) (by kernel_rfl) (by kernel_rfl) rfl ((Old.refl _).drew) ?st ?_
 case st =>
  refine .p <| .c (stf 3 U22 HT) <| .p <| .p <| .c (stf 1 U22 HG) <| .c (stK old_R func72 (fun wx _ => zdf Y j Q hY hj wx)) <| .p <| .c (stf 1 U22 HT) <| .p <| .p <| .c (stf 1 U22 HG) <| .c (stK old_R func61 (fun wx _ => zdS X j Q hX hj wx)) <| .p <| .c (stf 1 U22 HG) <| .c (stK old_R func71 (fun wx _ => sadd_any _ _ Q (zaI _ _ _) (zbi _ _ _) wx)) <| .c stp .n
 intro t wx hR hk
 simp only [fill, Ent.val, zs0, zs1, zd1, zd0, zdn]
 have d0 := Y1 (HG _ hR)
 have d1 := Y4 (HT _ hR)
 go_wp2_with (go_at_call 108; refine (ssub_any _ Z Q (zba _ _ _) hZ _).mono ?_; rintro e wz ⟨rfl, oz⟩)
 go_ret
 exact ⟨rfl, (HW0.trans hR).trans oz⟩
def Lanswer : Prop := ∀ (P Q G H : Int) (a : OA) (n cap : Nat) (b1 : OA) (n1 c1 : Nat) (X : NI) (b2 : OA) (n2 c2 : Nat) (Y : NI) (e : Int) (w : World), Four P Q G H -> Righ P Q G -> U64 e -> n1 <= 80 -> n2 <= 80 -> n1 <= c1 -> n2 <= c2 -> FacsIn w b1 n1 X -> FacsIn w b2 n2 Y ->
  Calls prog 43 #[gv P Q G H a n cap, .slice b1 n1 c1, .slice b2 n2 c2, .int .u64 e] w (Gives w (decide (n1 = n2)) n1 (fun k => ansI Q e (X k) (Y k)))
def Full (w : World) (b n : Nat) (F : NI) : Prop := w.heap[b]? = some (.cells ((List.range n).map fun k => Value.int .u64 (F k)).toArray 22 (0, 0))
theorem full_made (n : Nat) : madeCells #[Value.int .u64 0] n = ((List.range n).map fun _ => Value.int .u64 0).toArray := by
 unfold madeCells
 apply Array.ext
 ·simp
 ·intro i h1 h2
  simp [Nat.mod_one]
theorem full_new (w : World) (n : Nat) (F : NI) (h : ∀ k, k < n -> F k = 0) : Full (w.alloc (.cells (madeCells #[Value.int .u64 0] n) 22)) w.heap.size n F := by
 unfold Full
 rw [full_made, heap_alloc_last]
 congr 3
 apply List.map_congr_left
 intro k hk
 rw [h k (List.mem_range.1 hk)]
theorem Full.lt {w : World} {b n : Nat} {F : NI} (h : Full w b n F) : b < w.heap.size := (Array.getElem?_eq_some_iff.1 h).1
theorem Full.old {w w' : World} {b n : Nat} {F : NI} (h : Full w b n F) (ho : Old w w') : Full w' b n F := (ho.block b h.lt).trans h
theorem Full.cell {w : World} {b n : Nat} {F : NI} (h : Full w b n F) (i : Nat) (hi : i < n) : w.cell? ⟨b, i, none⟩ = some (.int .u64 (F i)) := by
 rw [cell_of_row _ _ i _ _ (0, 0) h]
 simp [hi]
theorem Full.free {w : World} {b n : Nat} {F : NI} (h : Full w b n F) (i : Nat) : w.frozen? ⟨b, i, none⟩ = false := zac h i
theorem Full.congr {w : World} {b n : Nat} {F G : NI} (h : Full w b n F) (he : ∀ k, k < n -> F k = G k) : Full w b n G := by
 unfold Full at h ⊢
 rw [h]
 congr 3
 apply List.map_congr_left
 intro k hk
 rw [he k (List.mem_range.1 hk)]
theorem Full.set {w : World} {b n : Nat} {F : NI} (h : Full w b n F) (i : Nat) (x : Int) : Full (w.setCell ⟨b, i, none⟩ (.int .u64 x)) b n (fun k => if k = i then x else F k) := by
 unfold Full
 rw [zaq h, List.setIfInBounds_toArray]
 congr 3
 apply List.ext_getElem
 ·simp
 ·intro k h1 h2
  simp only [List.getElem_set, List.getElem_map, List.getElem_range]
  by_cases hk : i = k
  ·subst hk; simp
  ·rw [if_neg hk, if_neg (fun e => hk e.symm)]
def upTo (i : Nat) (F : NI) : Nat -> Int := fun k => if k < i then F k else 0
theorem zaC (w : World) (n : Nat) (F : NI) : Full (w.alloc (.cells (madeCells #[Value.int .u64 0] n) 22)) w.heap.size n (upTo 0 F) := full_new w n _ fun k _ => by simp [upTo]
theorem Full.next {w : World} {b n i : Nat} {F : NI} (h : Full w b n (upTo i F)) : Full (w.setCell ⟨b, i, none⟩ (.int .u64 (F i))) b n (upTo (i + 1) F) :=
 (h.set i (F i)).congr fun k _ => by
  unfold upTo
  by_cases hk : k = i
  ·subst hk; simp
  ·rw [if_neg hk]
   by_cases h2 : k < i
   ·rw [if_pos h2, if_pos (by omega)]
   ·rw [if_neg h2, if_neg (by omega)]
theorem Full.done {w : World} {b n : Nat} {F : NI} (h : Full w b n (upTo n F)) : Full w b n F := h.congr fun k hk => by simp [upTo, hk]
theorem Full.nums {w : World} {base b n : Nat} {F : NI} (h : Full w b n F) (hb : base <= b) (hn : n <= 9223372036854775807) : Nums w base (.slice (some ⟨b, 0, none⟩) n n) n F := by
 refine ⟨by simp, Or.inr ⟨b, n, _, rfl, hb, h, Nat.le_refl _, by unfold maxLen; omega, by simp, by simp [List.take_of_length_le]⟩⟩
theorem Full.facs {w : World} {b n : Nat} {F : NI} (h : Full w b n F) (hF : ∀ k, k < n -> U64 (F k)) : FacsIn w (some ⟨b, 0, none⟩) n F :=
 Or.inr ⟨b, 0, rfl, h.lt, fun j hj => ⟨by rw [Nat.zero_add]; exact h.cell j hj, (hF j hj).1, (hF j hj).2⟩⟩
theorem zaP (n : Nat) (h : n <= 80) (w : World) : (Instr.makeSlice 29 (.int .i64 (n : Int)) (.int .i64 (n : Int))).run prog w = .ok (.slice (some ⟨w.heap.size, 0, none⟩) n n) (w.alloc (.cells (madeCells #[Value.int .u64 0] n) 22)) :=
 run_make_row' (P := prog) 29 22 (.int .u64 0) 8 U29 zbj rfl .i64 .i64 n (by omega) (by omega) w
def rowAt (x : Int) (p : Nat) : Nat -> Int := fun k => if k = p then x else 1
abbrev bv (u0 v0 u1 v1 u2 v2 : Int) : Value := .agg #[.int .u64 u0, .int .u64 v0, .int .u64 u1, .int .u64 v1, .int .u64 u2, .int .u64 v2]
abbrev bc (u0 v0 u1 v1 u2 v2 : Int) : Array Value := #[.int .u64 u0, .int .u64 v0, .int .u64 u1, .int .u64 v1, .int .u64 u2, .int .u64 v2]
theorem box_at (u0 v0 u1 v1 u2 v2 : Int) : ∀ (i : Nat) (_ : i < 3) (w : World), (Instr.index 74 (.agg #[.int .u64 u0, .int .u64 v0, .int .u64 u1, .int .u64 v1, .int .u64 u2, .int .u64 v2]) (.int .i64 (i : Int))).run prog w = .ok (pv (tri7 u0 u1 u2 i) (tri7 v0 v1 v2 i)) w
 | 0, _, w => by
  obtain ⟨i, h1, h2⟩ := Option.map_eq_some_iff.1 zcp
  simp [Instr.index, run_underlying U74, asIntOf, sizeOf, typeInfo, h1, h2, go_sem]
  exact ⟨rfl, rfl⟩
 | 1, _, w => by
  obtain ⟨i, h1, h2⟩ := Option.map_eq_some_iff.1 zcp
  simp [Instr.index, run_underlying U74, asIntOf, sizeOf, typeInfo, h1, h2, go_sem]
  exact ⟨rfl, rfl⟩
 | 2, _, w => by
  obtain ⟨i, h1, h2⟩ := Option.map_eq_some_iff.1 zcp
  simp [Instr.index, run_underlying U74, asIntOf, sizeOf, typeInfo, h1, h2, go_sem]
  exact ⟨rfl, rfl⟩
theorem slinfo : (prog.info? 29).map (fun i => (i.zero, i.size, i.bytes)) = some (some (.slice none 0 0), 1, 24) := by kernel_rfl
theorem Full.grown {w w' : World} {b n : Nat} {F : NI} {row : Option Nat} (h : Full w b n F) (hg : w.grownBy w' row) (hne : row ≠ some b) : Full w' b n F := (hg.block b h.lt (Ne.symm hne)).trans h
theorem Full.other {w : World} {b n : Nat} {F : NI} (h : Full w b n F) {p : Addr} (hne : b ≠ p.block) (v : Value) : Full (w.setCell p v) b n F := (Below.heap_setCell w p v b hne).trans h
structure Kp (W : World) (G : Int) (U : NI) (i k : Nat) (v u : Value) (bk : Nat -> Nat) (wx : World) : Prop where
 old : Old W wx
 big : W.heap.size + 1 <= wx.heap.size
 nums : Nums wx (W.heap.size + 1) v i U
 own : wx.ownsRow (W.heap.size + 1) 29 1 u k ((List.range k).map fun j => Value.slice (some ⟨bk j, 0, none⟩) 3 3)
 full : ∀ j, j < k -> W.heap.size + 1 <= bk j /\ Full wx (bk j) 3 (rowAt G j)
 s1 : ∀ j, j < k -> v.ownBlock ≠ some (bk j)
 s2 : ∀ j, j < k -> u.ownBlock ≠ some (bk j)
 s3 : v.ownBlock = none ∨ u.ownBlock ≠ v.ownBlock
def IntsIn (w : World) (a : OA) (n : Nat) (O : NI) : Prop :=
 n = 0 ∨ ∃ b off, a = some ⟨b, off, none⟩ /\ b < w.heap.size /\ ∀ j, j < n -> w.cell? ⟨b, off + j, none⟩ = some (.int .i64 (O j)) /\ -9223372036854775808 <= O j /\ O j <= 9223372036854775807
theorem IntsIn.old {w w' : World} {a : OA} {n : Nat} {O : NI} (h : IntsIn w a n O) (ho : Old w w') : IntsIn w' a n O := by
 rcases h with h | ⟨b, off, ha, hb, hr⟩
 ·exact Or.inl h
 ·exact Or.inr ⟨b, off, ha, Nat.lt_of_lt_of_le hb ho.size, fun j hj => ⟨ho.cellOf (hr j hj).1, (hr j hj).2⟩⟩
def RhoIn (w : World) (a : OA) (n : Nat) (R : NN) : Prop :=
 n = 0 ∨ ∃ b off, a = some ⟨b, off, none⟩ /\ b < w.heap.size /\ ∀ j, j < n -> ∀ k, k < 3 -> w.cell? ⟨b, off + j * 3 + k, none⟩ = some (.int .u64 (R j k)) /\ U64 (R j k)
theorem RhoIn.old {w w' : World} {a : OA} {n : Nat} {R : NN} (h : RhoIn w a n R) (ho : Old w w') : RhoIn w' a n R := by
 rcases h with h | ⟨b, off, ha, hb, hr⟩
 ·exact Or.inl h
 ·exact Or.inr ⟨b, off, ha, Nat.lt_of_lt_of_le hb ho.size, fun j hj k hk => ⟨ho.cellOf (hr j hj k hk).1, (hr j hj k hk).2⟩⟩
theorem RhoIn.u64 {w : World} {a : OA} {n : Nat} {R : NN} (h : RhoIn w a n R) {j k : Nat} (hj : j < n) (hk : k < 3) : U64 (R j k) := by
 rcases h with h0 | ⟨_, _, _, _, h⟩
 ·omega
 ·exact (h j hj k hk).2
def BoxsIn (w : World) (a : OA) (n : Nat) (C : NN) : Prop :=
 n = 0 ∨ ∃ b off, a = some ⟨b, off, none⟩ /\ b < w.heap.size /\ ∀ j, j < n -> ∀ k, k < 6 -> w.cell? ⟨b, off + j * 6 + k, none⟩ = some (.int .u64 (C j k)) /\ U64 (C j k)
theorem BoxsIn.old {w w' : World} {a : OA} {n : Nat} {C : NN} (h : BoxsIn w a n C) (ho : Old w w') : BoxsIn w' a n C := by
 rcases h with h | ⟨b, off, ha, hb, hr⟩
 ·exact Or.inl h
 ·exact Or.inr ⟨b, off, ha, Nat.lt_of_lt_of_le hb ho.size, fun j hj k hk => ⟨ho.cellOf (hr j hj k hk).1, (hr j hj k hk).2⟩⟩
theorem BoxsIn.u64 {w : World} {a : OA} {n : Nat} {C : NN} (h : BoxsIn w a n C) {j k : Nat} (hj : j < n) (hk : k < 6) : U64 (C j k) := by
 rcases h with h0 | ⟨_, _, _, _, h⟩
 ·omega
 ·exact (h j hj k hk).2
def uB (C : NN) (j w : Nat) : Int := C j (2 * (min w 2))
def vB (C : NN) (j w : Nat) : Int := C j (2 * (min w 2) + 1)
def flatF (C : NN) : Nat -> Int := fun k => C (k / 6) (k % 6)
def GivF (w : World) (n : Nat) (F : NI) (r : Ending) (w' : World) : Prop := Old w w' /\ ∃ b, w.heap.size <= b /\ r = .returned (.slice (some ⟨b, 0, none⟩) n n) /\ Full w' b n F
def GivL (w : World) (n : Nat) (F : NI) (r : Ending) (w' : World) : Prop := Old w w' /\ ∃ v, r = .returned v /\ Nums w' w.heap.size v n F
theorem GivF.list {w w' : World} {n : Nat} {F : NI} {r : Ending} (h : GivF w n F r w') (hn : n <= 9223372036854775807) : GivL w n F r w' := by
 obtain ⟨ho, b, hb, rfl, hF⟩ := h
 exact ⟨ho, _, rfl, hF.nums hb hn⟩
theorem zaG {w w' : World} (F : NI) (ho : Old w w') : GivL w 0 F (.returned (.slice none 0 0)) w' := ⟨ho, _, rfl, zaD _ _ _⟩
theorem zbK (b : OA) (n cap : Nat) (O : NI) (w : World) (hn : n <= 80) (h : IntsIn w b n O) (h0 : ∀ i, i < n -> 0 <= O i /\ O i < 1000) :
  Calls prog 58 #[.slice b n cap] w (GivF w n (fun i => O i + 1)) := by
 have HX := hid h
 have HB := hid h0
 clear h h0
 obtain ⟨F, hF⟩ : ∃ F : Nat -> Int, F = fun i => O i + 1 := ⟨_, rfl⟩
 rw [<- hF]
 have HF : Hid (∀ i, F i = O i + 1) := fun i => by rw [hF]
 clear hF
 have hmk := zaP n hn
 have HFu := zaC w n F
 have HW0 : Hid (Old w (w.alloc (.cells (madeCells #[Value.int .u64 0] n) 22))) := (Old.refl _).alloc _
 go_enter func58, ntmps58
 go_upto_region 2 with fail
 generalize w.alloc (.cells (madeCells #[Value.int .u64 0] n) 22) = W1 at *
 go_upto_region 3 with fail
 go_loopw [11] (fun iv wx => ∃ i : Nat, iv = .int .i64 (i : Int) /\ i <= n /\ Hid (Full wx w.heap.size n (upTo i F)) /\ Hid (Old w wx)) (fun iv _ => n - (intOf iv).toNat)
 case atStart => exact ⟨0, rfl, Nat.zero_le _, HFu, HW0⟩
 case round =>
  obtain ⟨i, rfl, hi1, HN, HO⟩ := hrel
  by_cases hlt : i < n
  ·rcases HX.out.old HO.out with h0 | ⟨bx, ox, hqx, _, hrx⟩
   ·omega
   have cx := (hrx i hlt).1
   have hb1 := (HB.out i hlt).1
   have hb2 := (HB.out i hlt).2
   clear hrx
   subst hqx
   have HFi := hid (HF.out i)
   have HG0 := hid HN.out.next
   have HG : Hid (Full (wr.setCell ⟨w.heap.size, i, none⟩ (.int .u64 (O i + 1))) w.heap.size n (upTo (i + 1) F)) := by rw [<- HFi.out]; exact HG0
   have HG2 : Hid (Old w (wr.setCell ⟨w.heap.size, i, none⟩ (.int .u64 (O i + 1)))) := HO.out.setCell (p := ⟨w.heap.size, i, none⟩) (Nat.le_refl _) _
   have q0 := HN.out.cell i hlt
   have f0 := HN.out.free i
   clear HG0 HFi
   generalize O i = x at *
   have k1 : IntKind.u64.wrap x = x := by rw [IntKind.wrap_u64]; omega
   have k2 : IntKind.u64.wrap (x + 1) = x + 1 := by rw [IntKind.wrap_u64]; omega
   go_wp2_with fail
   go_roundw
   case rel => exact ⟨i + 1, zab i, by omega, HG, HG2⟩
   case measure => simp [intOf]; omega
  ·have he : n = i := by omega
   subst he
   have HD : Hid (Full wr w.heap.size n F) := HN.out.done
   go_wp2_with fail
   go_ret
   exact ⟨HO.out, w.heap.size, Nat.le_refl _, rfl, HD.out⟩
theorem zbD (P Q G H : Int) (a : OA) (n cap : Nat) (b1 : OA) (n1 c1 : Nat) (X : NI) (w : World) (m1 : n1 <= 80) (h1 : FacsIn w b1 n1 X) :
  Calls prog 74 #[gv P Q G H a n cap, .slice b1 n1 c1] w (GivF w n1 (fun i => addI (X i) 0 Q)) := by
 have HX : Hid (FacsIn w b1 n1 X) := h1
 have HZ := lain1 w (gc P Q G H a n cap) 25
 obtain ⟨F, hF⟩ : ∃ F : Nat -> Int, F = fun k => addI (X k) 0 Q := ⟨_, rfl⟩
 have H1 : Hid (∀ i wx, i < n1 -> Calls prog 71 #[.int .u64 (X i), .int .u64 0, .int .u64 Q] wx fun r w' => r = .returned (.int .u64 (F i)) /\ Old wx w') := fun i wx hi => (zeg (X i) 0 Q wx (h1.u64 i hi).1 (h1.u64 i hi).2 (by decide) (by decide)).mono fun r w' ⟨h, k⟩ => ⟨by rw [h, hF], (Old.refl _).draws k⟩
 rw [<- hF]
 clear hF h1
 have hmk := zaP n1 m1
 go_enter func74, ntmps74
 go_upto_region 1 with fail
 generalize hW : w.alloc (.cells (gc P Q G H a n cap) 25) = W at *
 clear hW
 go_upto_region 2 with fail
 have HFu := zaC W n1 F
 have HWx : Hid (Old W (W.alloc (.cells (madeCells #[Value.int .u64 0] n1) 22))) := (Old.refl W).alloc _
 have hlt0 : W.heap.size < (W.alloc (.cells (madeCells #[Value.int .u64 0] n1) 22)).heap.size := HFu.lt
 generalize W.alloc (.cells (madeCells #[Value.int .u64 0] n1) 22) = W1 at *
 go_upto_region 3 with fail
 go_loopw [13] (fun iv wx => ∃ i : Nat, iv = .int .i64 (i : Int) /\ i <= n1 /\ Hid (Full wx W.heap.size n1 (upTo i F)) /\ Hid (Old W wx)) (fun iv _ => n1 - (intOf iv).toNat)
 case atStart => exact ⟨0, rfl, Nat.zero_le _, HFu, HWx⟩
 case round =>
  obtain ⟨i, rfl, hi1, HN, HW⟩ := hrel
  by_cases hlt : i < n1
  ·rcases HX.out with h0 | ⟨bx, ox, hqx, _, hrx⟩
   ·omega
   have cx := (HZ.old.trans HW.out).cellOf (hrx i hlt).1
   clear hrx
   subst hqx
   have d1 := (HZ.then HW.out).cell 0 1 (by simp) rfl
   simp only [Nat.add_zero] at d1
   have HM : Hid (∀ wx, Calls prog 71 #[.int .u64 (X i), .int .u64 0, .int .u64 Q] wx fun r w' => r = .returned (.int .u64 (F i)) /\ Old wx w') := fun wx => H1.out i wx hlt
   go_wp2_with (go_at_call 71; refine (HM.out _).mono ?_; rintro e w4 ⟨rfl, o4⟩; have h4 : Old W w4 := HW.out.trans o4; have hful := HN.out.old o4; have q0 := hful.cell i hlt; have f0 := hful.free i)
   have HG := hid hful.next
   have HG2 : Hid (Old W (w4.setCell ⟨W.heap.size, i, none⟩ (.int .u64 (F i)))) := h4.setCell (Nat.le_refl _) _
   go_roundw
   case rel => exact ⟨i + 1, zab i, by omega, HG, HG2⟩
   case measure => simp [intOf]; omega
  ·have he : n1 = i := by omega
   subst he
   have HD := hid HN.out.done
   go_wp2_with fail
   go_ret
   exact ⟨HZ.old.trans HW.out, W.heap.size, HZ.old.size, rfl, HD.out⟩
theorem ordK8_le {O : NI} {k : Int} : ∀ n, (∀ i j, i < n -> j < n -> O i = k -> O j = k -> i = j) -> ordK8 O k n <= 1
 | 0, _ => by show 0 <= 1; omega
 | n + 1, h => by
  show ordK8 O k n + (if O n = k then 1 else 0) <= 1
  by_cases hx : O n = k
  ·rw [if_pos hx]
   by_cases h0 : 0 < ordK8 O k n
   ·obtain ⟨i, hi, he⟩ := zd0 n h0
    have := h i n (by omega) (by omega) he hx
    omega
   ·omega
  ·rw [if_neg hx]
   have := ordK8_le n fun i j hi hj => h i j (by omega) (by omega)
   omega
def OrdP (n : Nat) (O : NI) : Prop := 0 < n /\ (∀ i, i < n -> 0 <= O i /\ O i < (n : Int)) /\ ∀ i j, i < j -> j < n -> O i ≠ O j
def ordB (n : Nat) (O : NI) : Bool := decide (0 < n) && ((List.range n).all (fun i => decide (0 <= O i) && decide (O i < (n : Int))) && (List.range n).all fun j => (List.range j).all fun i => decide (O i ≠ O j))
theorem zaA {n : Nat} {O : NI} : ordB n O = true ↔ OrdP n O := by
 unfold ordB OrdP
 simp only [Bool.and_eq_true, decide_eq_true_eq, List.all_eq_true, List.mem_range]
 exact ⟨fun ⟨h1, h2, h3⟩ => ⟨h1, h2, fun i j hij hj => h3 j hj i hij⟩, fun ⟨h1, h2, h3⟩ => ⟨h1, h2, fun j hj i hij => h3 i j hij hj⟩⟩
theorem ordB8_in {O : NI} {m : Nat} : ∀ n, (∀ i, i < n -> 0 <= O i /\ O i < (m : Int)) -> ordB8 O m n = n
 | 0, _ => rfl
 | n + 1, h => by
  show ordB8 O m n + (if 0 <= O n /\ O n < (m : Int) then 1 else 0) = n + 1
  rw [ordB8_in n fun i hi => h i (by omega), if_pos (h n (by omega))]
theorem zfc {O : NI} {n : Nat} : ∀ m, (∀ k, k < m -> ordK8 O (k : Nat) n <= 1) -> ordB8 O m n <= m
 | 0, _ => by
  have := zb6 (O := O) (n := n) 0 (fun k hk => by omega)
  omega
 | m + 1, h => by
  rw [zcE]
  have := zfc m fun k hk => h k (by omega)
  have := h m (by omega)
  omega
theorem zeS {O : NI} {n : Nat} : ∀ m, (∀ k, k < m -> ordK8 O (k : Nat) n <= 1) -> ordB8 O m n = m -> ∀ k, k < m -> ordK8 O (k : Nat) n = 1
 | 0, _, _, k, hk => by omega
 | m + 1, h, he, k, hk => by
  rw [zcE] at he
  have h1 := zfc m fun k hk => h k (by omega)
  have h2 := h m (by omega)
  by_cases hkm : k = m
  ·subst hkm; omega
  ·exact zeS m (fun k hk => h k (by omega)) (by omega) k (by omega)
theorem OrdP.once {n : Nat} {O : NI} (h : OrdP n O) : ∀ k, k < n -> ordK8 O (k : Nat) n = 1 := by
 refine zeS n (fun k _ => ordK8_le n fun i j hi hj hx hy => ?_) (ordB8_in n h.2.1)
 by_cases h1 : i < j
 ·exact absurd (hx.trans hy.symm) (h.2.2 i j h1 hj)
 ·by_cases h2 : j < i
  ·exact absurd (hy.trans hx.symm) (h.2.2 j i h2 hi)
  ·omega
theorem OrdP.ord {n : Nat} {O : NI} (h : OrdP n O) : Ord8 n (fun i => (O i).toNat) := (zet h.once).2
theorem ordP_of_once {n : Nat} {O : NI} (hn : 0 < n) (h : ∀ k, k < n -> ordK8 O (k : Nat) n = 1) : OrdP n O := by
 obtain ⟨h1, h2⟩ := zet h
 refine ⟨hn, h1, fun i j hij hj he => ?_⟩
 have := h2.inj i j (by omega) hj (by show (O i).toNat = (O j).toNat; rw [he])
 omega
theorem OrdP.cast {n : Nat} {O : NI} (h : OrdP n O) {i : Nat} (hi : i < n) : (((O i).toNat : Nat) : Int) = O i := by
 have := h.2.1 i hi; omega
def FulV (w : World) (b n : Nat) (t : TypeId) (V : Nat -> Value) : Prop := w.heap[b]? = some (.cells ((List.range n).map V).toArray t (0, 0))
theorem fulV_made (z : Value) (n : Nat) : madeCells #[z] n = ((List.range n).map fun _ => z).toArray := by
 unfold madeCells
 apply Array.ext
 ·simp
 ·intro i h1 h2
  simp [Nat.mod_one]
theorem fulV_made6 (z : Value) (n : Nat) : madeCells #[z, z, z, z, z, z] n = ((List.range n).map fun _ => z).toArray := by
 unfold madeCells
 apply Array.ext
 ·simp
 ·intro i h1 h2
  simp
  have : i % 6 < 6 := Nat.mod_lt _ (by omega)
  generalize i % 6 = k at this
  match k, this with
  | 0, _ => rfl
  | 1, _ => rfl
  | 2, _ => rfl
  | 3, _ => rfl
  | 4, _ => rfl
  | 5, _ => rfl
theorem FulV.lt {w : World} {b n : Nat} {t : TypeId} {V : Nat -> Value} (h : FulV w b n t V) : b < w.heap.size := (Array.getElem?_eq_some_iff.1 h).1
theorem FulV.old {w w' : World} {b n : Nat} {t : TypeId} {V : Nat -> Value} (h : FulV w b n t V) (ho : Old w w') : FulV w' b n t V := (ho.block b h.lt).trans h
theorem FulV.cell {w : World} {b n : Nat} {t : TypeId} {V : Nat -> Value} (h : FulV w b n t V) (i : Nat) (hi : i < n) : w.cell? ⟨b, i, none⟩ = some (V i) := by
 rw [cell_of_row _ _ i _ _ (0, 0) h]
 simp [hi]
theorem FulV.free {w : World} {b n : Nat} {t : TypeId} {V : Nat -> Value} (h : FulV w b n t V) (i : Nat) : w.frozen? ⟨b, i, none⟩ = false := zac h i
theorem FulV.congr {w : World} {b n : Nat} {t : TypeId} {V U : Nat -> Value} (h : FulV w b n t V) (he : ∀ k, k < n -> V k = U k) : FulV w b n t U := by
 unfold FulV at h ⊢
 rw [h]
 congr 3
 apply List.map_congr_left
 intro k hk
 rw [he k (List.mem_range.1 hk)]
theorem FulV.set {w : World} {b n : Nat} {t : TypeId} {V : Nat -> Value} (h : FulV w b n t V) (i : Nat) (x : Value) : FulV (w.setCell ⟨b, i, none⟩ x) b n t (fun k => if k = i then x else V k) := by
 unfold FulV
 rw [zaq h, List.setIfInBounds_toArray]
 congr 3
 apply List.ext_getElem
 ·simp
 ·intro k h1 h2
  simp only [List.getElem_set, List.getElem_map, List.getElem_range]
  by_cases hk : i = k
  ·subst hk; simp
  ·rw [if_neg hk, if_neg (fun e => hk e.symm)]
theorem fulV_new (w : World) (n : Nat) (t : TypeId) (z : Value) (V : Nat -> Value) (h : ∀ k, k < n -> V k = z) : FulV (w.alloc (.cells (madeCells #[z] n) t)) w.heap.size n t V := by
 unfold FulV
 rw [fulV_made, heap_alloc_last]
 congr 3
 apply List.map_congr_left
 intro k hk
 rw [h k (List.mem_range.1 hk)]
theorem fulV_new6 (w : World) (n : Nat) (t : TypeId) (z : Value) (V : Nat -> Value) (h : ∀ k, k < n -> V k = z) : FulV (w.alloc (.cells (madeCells #[z, z, z, z, z, z] n) t)) w.heap.size n t V := by
 unfold FulV
 rw [fulV_made6, heap_alloc_last]
 congr 3
 apply List.map_congr_left
 intro k hk
 rw [h k (List.mem_range.1 hk)]
def cnt8 (n : Nat) : Bool := decide (1 <= n) && decide (n <= 8)
theorem cnt8_iff {n : Nat} : cnt8 n = true ↔ 1 <= n /\ n <= 8 := by simp [cnt8]
theorem zeV (n : Nat) (w : World) (hn : n <= 9223372036854775807) :
  Calls prog 102 #[.int .i64 (n : Int)] w fun e w' => e = .returned (.bool (cnt8 n)) /\ w' = w := by
 by_cases h1 : 1 <= n
 ·have HE : Hid (cnt8 n = decide (n <= 8)) := by unfold Hid cnt8; simp [h1]
  by_cases h2 : n <= 8
  ·have HE2 : Hid (cnt8 n = true) := HE.out.trans (by simp [h2])
   clear HE
   have k1 : (1 : Int) <= (n : Int) := by omega
   have k2 : (n : Int) <= 8 := by omega
   go_enter func102, ntmps102
   go_wp2_with fail
   go_ret
   exact ⟨zad HE2.out.symm, by first | trivial | rfl⟩
  ·have HE2 : Hid (cnt8 n = false) := HE.out.trans (by simp [h2])
   clear HE
   have k1 : (1 : Int) <= (n : Int) := by omega
   have k2 : ¬ (n : Int) <= 8 := by omega
   go_enter func102, ntmps102
   go_wp2_with fail
   go_ret
   exact ⟨zad HE2.out.symm, by first | trivial | rfl⟩
 ·have HE : Hid (cnt8 n = false) := by unfold Hid cnt8; simp [h1]
  have k1 : ¬ (1 : Int) <= (n : Int) := by omega
  go_enter func102, ntmps102
  go_wp2_with fail
  go_ret
  exact ⟨zad HE.out.symm, by first | trivial | rfl⟩
theorem boolinfo : (prog.info? 4).map (fun i => (i.zero, i.size, i.bytes)) = some (some (.bool false), 1, 1) := by kernel_rfl
def seenB (O : NI) (i k : Nat) : Bool := (List.range i).any fun j => O j == (k : Int)
theorem seenB_iff {O : NI} {i k : Nat} : seenB O i k = true ↔ ∃ j, j < i /\ O j = (k : Int) := by
 simp [seenB]
theorem seenB_succ (O : NI) (i k : Nat) : seenB O (i + 1) k = (seenB O i k || O i == (k : Int)) := by
 unfold seenB
 rw [List.range_succ, List.any_append]
 simp
theorem zbU (b : OA) (n cap : Nat) (O : NI) (w : World) (hn : n <= 1000) (h : IntsIn w b n O) :
  Calls prog 50 #[.slice b n cap] w fun e w' => e = .returned (.bool (ordB n O)) /\ Old w w' := by
 have HX : Hid (IntsIn w b n O) := h
 clear h
 have hmk : ∀ wx, (Instr.makeSlice 127 (.int .i64 (n : Int)) (.int .i64 (n : Int))).run prog wx = .ok (.slice (some ⟨wx.heap.size, 0, none⟩) n n) (wx.alloc (.cells (madeCells #[Value.bool false] n) 4)) := fun wx => run_make_row' (P := prog) 127 4 (.bool false) 1 U127 boolinfo rfl .i64 .i64 n (by omega) (by omega) wx
 have HFu : Hid (FulV (w.alloc (.cells (madeCells #[Value.bool false] n) 4)) w.heap.size n 4 (fun k => .bool (seenB O 0 k))) := fulV_new w n _ (.bool false) _ (fun k _ => rfl)
 have HW0 : Hid (Old w (w.alloc (.cells (madeCells #[Value.bool false] n) 4))) := (Old.refl _).alloc _
 go_enter func50, ntmps50
 go_upto_region 2 with fail
 generalize w.alloc (.cells (madeCells #[Value.bool false] n) 4) = W1 at *
 go_upto_region 3 with fail
 go_loopw [11] (fun iv wx => ∃ i : Nat, iv = .int .i64 (i : Int) /\ i <= n /\ Hid (∀ j, j < i -> 0 <= O j /\ O j < (n : Int)) /\ Hid (∀ c d, c < d -> d < i -> O c ≠ O d) /\ Hid (FulV wx w.heap.size n 4 (fun k => .bool (seenB O i k))) /\ Hid (Old w wx)) (fun iv _ => n - (intOf iv).toNat)
 case atStart => exact ⟨0, rfl, Nat.zero_le _, fun j hj => by omega, fun c d h1 h2 => by omega, HFu, HW0⟩
 case round =>
  obtain ⟨i, rfl, hi1, HB, HD, HF, HO⟩ := hrel
  by_cases hlt : i < n
  ·rcases HX.out.old HO.out with h0 | ⟨bx, ox, hqx, _, hrx⟩
   ·omega
   have cx := (hrx i hlt).1
   have hb1 := (hrx i hlt).2.1
   have hb2 := (hrx i hlt).2.2
   clear hrx
   subst hqx
   obtain ⟨x, hx⟩ : ∃ x, O i = x := ⟨_, rfl⟩
   have HOi : Hid (O i = x) := hx
   rw [hx] at cx hb1 hb2
   clear hx
   by_cases h1 : x < 0
   ·have HN : Hid (ordB n O = false) := no_of fun hc => by
     have := (zaA.1 hc).2.1 i hlt
     rw [HOi.out] at this
     omega
    have k1 : decide (x < 0) = true := by simp [h1]
    go_wp2_with fail
    go_ret
    exact ⟨zad HN.out.symm, HO.out⟩
   by_cases h2 : (n : Int) <= x
   ·have HN : Hid (ordB n O = false) := no_of fun hc => by
     have := (zaA.1 hc).2.1 i hlt
     rw [HOi.out] at this
     omega
    have k1 : decide (x < 0) = false := by simp; omega
    have k2 : decide (x ≥ (n : Int)) = true := by simp; omega
    go_wp2_with fail
    go_ret
    exact ⟨zad HN.out.symm, HO.out⟩
   obtain ⟨k, rfl⟩ : ∃ k : Nat, x = (k : Int) := ⟨x.toNat, by omega⟩
   have hk : k < n := by omega
   have k1 : decide ((k : Int) < 0) = false := by simp
   have k2 : decide ((k : Int) ≥ (n : Int)) = false := by simp; omega
   have k3 : ¬ (n : Int) <= (k : Int) := by omega
   have k4 : (k : Int) < (n : Int) := by omega
   cases hs : seenB O i k with
   | true =>
    have HN : Hid (ordB n O = false) := no_of fun hc => by
     obtain ⟨j, hj, he⟩ := seenB_iff.1 hs
     exact (zaA.1 hc).2.2 j i hj hlt (by rw [he, HOi.out])
    have cs : wr.cell? ⟨w.heap.size, k, none⟩ = some (.bool true) := by rw [<- hs]; exact HF.out.cell k hk
    clear hs
    go_wp2_with fail
    go_ret
    exact ⟨zad HN.out.symm, HO.out⟩
   | false =>
    have HB2 : Hid (∀ j, j < i + 1 -> 0 <= O j /\ O j < (n : Int)) := zav HB.out (by rw [HOi.out]; omega)
    have HD2 : Hid (∀ c d, c < d -> d < i + 1 -> O c ≠ O d) := fun c d hcd hd => by
     by_cases hdi : d = i
     ·subst hdi
      intro he
      rw [HOi.out] at he
      have := seenB_iff.2 ⟨c, hcd, he⟩
      rw [hs] at this
      cases this
     ·exact HD.out c d hcd (by omega)
    have cs : wr.cell? ⟨w.heap.size, k, none⟩ = some (.bool false) := by rw [<- hs]; exact HF.out.cell k hk
    have fs : wr.frozen? ⟨w.heap.size, k, none⟩ = false := HF.out.free k
    have HF2 : Hid (FulV (wr.setCell ⟨w.heap.size, k, none⟩ (.bool true)) w.heap.size n 4 (fun k => .bool (seenB O (i + 1) k))) := (HF.out.set k (.bool true)).congr fun j hj => by
     rw [seenB_succ, HOi.out]
     by_cases hjk : j = k
     ·subst hjk; simp
     ·rw [if_neg hjk]
      have : ((k : Int) == (j : Int)) = false := by simp; omega
      rw [this, Bool.or_false]
    have HO2 : Hid (Old w (wr.setCell ⟨w.heap.size, k, none⟩ (.bool true))) := HO.out.setCell (p := ⟨w.heap.size, k, none⟩) (Nat.le_refl _) _
    clear hs
    go_wp2_with fail
    go_roundw
    case rel => exact ⟨i + 1, zab i, by omega, HB2, HD2, HF2, HO2⟩
    case measure => simp [intOf]; omega
  ·have he : n = i := by omega
   subst he
   by_cases h0 : 0 < n
   ·have HN : Hid (ordB n O = true) := zaA.2 ⟨h0, HB.out, HD.out⟩
    have k1 : (0 : Int) < (n : Int) := by omega
    have k2 : decide ((n : Int) > 0) = true := by simp; omega
    go_wp2_with fail
    go_ret
    exact ⟨zad HN.out.symm, HO.out⟩
   ·have HN : Hid (ordB n O = false) := no_of fun hc => h0 (zaA.1 hc).1
    have k1 : ¬ (0 : Int) < (n : Int) := by omega
    have k2 : decide ((n : Int) > 0) = false := by simp; omega
    go_wp2_with fail
    go_ret
    exact ⟨zad HN.out.symm, HO.out⟩
theorem sfirst_any (P Q G H : Int) (a : OA) (n cap : Nat) (bo : OA) (no co : Nat) (O : NI) (br : OA) (nr cr : Nat) (R : NI) (w : World) (h4 : Four P Q G H) (hr : Righ P Q G) (mo : no <= 80) (mr : nr <= 80) (hO : IntsIn w bo no O) (hR : FacsIn w br nr R) :
  Calls prog 20 #[gv P Q G H a n cap, .slice bo no co, .slice br nr cr] w (GivL w (if ordB no O && decide (nr = no) then no else 0) (fun i => comI P Q G H (O i + 1) (R i))) := by
 have HX := hid hR
 have HZ := lain1 w (gc P Q G H a n cap) 25
 have HG0 := fun w' ho => (HZ.then (W' := w') ho).row 0 (by simp)
 have HW0 := hid HZ.old
 have HOr := hid fun wx (ho : Old w wx) => zbU bo no co O wx (by omega) (hO.old ho)
 cases ho : ordB no O with
 | false =>
  rw [ho] at HOr
  clear ho hO hR h4 hr HG0
  go_enter func20, ntmps20
  go_upto_region 1 with fail
  generalize w.alloc (.cells (gc P Q G H a n cap) 25) = W at *
  go_wp2_with (go_at_call 50; refine (HOr.out _ HW0.out).mono ?_; rintro e w1 ⟨rfl, o1⟩)
  go_ret
  exact zaG _ (HW0.out.trans o1)
 | true =>
  rw [ho] at HOr
  have hP := zaA.1 ho
  clear ho
  by_cases hn : nr = no
  ·subst hn
   have HB : Hid (∀ i, i < nr -> 0 <= O i /\ O i < 1000) := fun i hi => by have := hP.2.1 i hi; omega
   have m0 : 0 < nr := hP.1
   have HCo := hid fun wx (hx : Old w wx) => zbK bo nr co O wx mr (hO.old hx) HB.out
   have HUj : Hid (∀ i, i < nr -> U64 (O i + 1)) := fun i hi => by have := HB.out i hi; exact ⟨by omega, by omega⟩
   obtain ⟨F, hF⟩ : ∃ F : Nat -> Int, F = fun i => comI P Q G H (O i + 1) (R i) := ⟨_, rfl⟩
   have HFi : Hid (∀ i, F i = comI P Q G H (O i + 1) (R i)) := fun i => by rw [hF]
   rw [<- hF]
   obtain ⟨K, hK0⟩ : ∃ K : Nat -> Int, K = fun i => O i + 1 := ⟨_, rfl⟩
   have HK : Hid (∀ i, K i = O i + 1) := fun i => by rw [hK0]
   have HUk : Hid (∀ i, i < nr -> U64 (K i)) := fun i hi => by rw [HK.out]; exact HUj.out i hi
   rw [<- hK0] at HCo
   have HRu := hid hR.u64
   have H4 := hid h4
   have HRi := hid hr
   clear hF hO hR h4 hr hP HB hK0 HUj
   simp only [decide_true, Bool.and_self, if_true]
   have hmk := zaP nr mr
   go_enter func20, ntmps20
   go_upto_region 1 with fail
   generalize w.alloc (.cells (gc P Q G H a n cap) 25) = W at *
   have HG := hid HG0
   clear HG0
   go_upto_region 3 with (go_at_call 50; refine (HOr.out _ HW0.out).mono ?_; rintro e w1 ⟨rfl, o1⟩)
   go_upto_region 4 with fail
   have HFu := zaC w1 nr F
   have HW1 : Hid (Old W (w1.alloc (.cells (madeCells #[Value.int .u64 0] nr) 22))) := o1.alloc _
   have hs1 := o1.size
   generalize w1.alloc (.cells (madeCells #[Value.int .u64 0] nr) 22) = W1 at *
   go_upto_region 5 with (go_at_call 58; refine (HCo.out _ (HW0.out.trans HW1.out)).mono ?_; rintro e w2 ⟨o2, bk, hbk, rfl, hful⟩; have HK2 : Hid (Full w2 bk nr K) := hful; have HFu2 : Hid (Full w2 w1.heap.size nr (upTo 0 F)) := HFu.old o2; have HW2 : Hid (Old W w2) := HW1.out.trans o2; have hne : bk ≠ w1.heap.size := (by have := HFu.lt; omega); clear hful o2)
   go_loopw [26] (fun iv wx => ∃ i : Nat, iv = .int .i64 (i : Int) /\ i <= nr /\ Hid (Full wx w1.heap.size nr (upTo i F)) /\ Hid (Full wx bk nr K) /\ Hid (Old W wx)) (fun iv _ => nr - (intOf iv).toNat)
   case atStart => exact ⟨0, rfl, Nat.zero_le _, HFu2, HK2, HW2⟩
   case round =>
    obtain ⟨i, rfl, hi1, HN, HKx, HW⟩ := hrel
    by_cases hlt : i < nr
    ·rcases HX.out with h0 | ⟨bx, ox, hqx, _, hrx⟩
     ·omega
     have HR := hid fun wx (hx : Old wr wx) => ((HW0.out.trans HW.out).trans hx).cellOf (hrx i hlt).1
     have HGr := hid fun wx (hx : Old wr wx) => HG.out _ (HW.out.trans hx)
     clear hrx
     subst hqx
     have ck := HKx.out.cell i hlt
     go_upto_region 7 with fail
     refine zaa 10 [.k (.slice (some ⟨w1.heap.size, 0, none⟩) nr nr), .k (.int .i64 (i : Int)), .k (gv P Q G H a n cap), .k (.int .u64 (K i)), .k (.slice (some ⟨bx, ox, none⟩) nr cr), .k (.int .i64 (i : Int)), .k (.pointer (some ⟨bx, ox + i, none⟩)), .k (.int .u64 (R i)), .k (.int .u64 (F i)), .k (.pointer (some ⟨w1.heap.size, i, none⟩))] (Old wr) (by kernel_rfl) (by kernel_rfl) rfl ((Old.refl _).drew) ?st ?_
     case st =>
      refine .p <| .p <| .c (sts U25 HGr.out) <| .p <| .p <| .p <| .c (sti (c := cr) hlt U29) <| .c (stl U22 HR.out) <| .c (stK old_R func59 (fun wx _ => by rw [HFi.out, <- HK.out]; exact zep P Q G H a n cap (K i) (R i) wx H4.out HRi.out (HUk.out i hlt) (HRu.out i hlt))) <| .c (sti0 (c := nr) hlt U29) .n
     intro t wx hR hk
     simp only [fill, Ent.val, zs0, zs1, zd1, zd0, zdn]
     have HNx := hid (HN.out.old hR)
     have HG1 := hid HNx.out.next
     have HKn : Hid (Full (wx.setCell ⟨w1.heap.size, i, none⟩ (.int .u64 (F i))) bk nr K) := (HKx.out.old hR).other (p := ⟨w1.heap.size, i, none⟩) hne _
     have HG2 : Hid (Old W (wx.setCell ⟨w1.heap.size, i, none⟩ (.int .u64 (F i)))) := (HW.out.trans hR).setCell hs1 _
     have q0 := HNx.out.cell i hlt
     have f0 := HNx.out.free i
     clear hR hk
     go_wp2_with fail
     go_roundw
     case rel => exact ⟨i + 1, zab i, by omega, HG1, HKn, HG2⟩
     case measure => simp [intOf]; omega
    ·have he : nr = i := by omega
     subst he
     have HD := hid (HN.out.done.nums (Nat.le_trans HW0.out.size hs1) (by omega))
     go_wp2_with fail
     go_ret
     exact ⟨HW0.out.trans HW.out, _, rfl, HD.out⟩
  ·have k1 : ¬ (nr : Int) = (no : Int) := by omega
   have k2 : ((nr : Int) != (no : Int)) = true := by simp; omega
   have HN : Hid ((if (true && decide (nr = no)) = true then no else 0) = 0) := by unfold Hid; simp [hn]
   clear hO hR h4 hr hP HG0
   rw [HN.out]
   go_enter func20, ntmps20
   go_upto_region 1 with fail
   generalize w.alloc (.cells (gc P Q G H a n cap) 25) = W at *
   go_wp2_with (go_at_call 50; refine (HOr.out _ HW0.out).mono ?_; rintro e w1 ⟨rfl, o1⟩)
   go_ret
   exact zaG _ (HW0.out.trans o1)
theorem ssecond_any (P Q G H : Int) (a : OA) (n cap : Nat) (bo : OA) (no co : Nat) (O : NI) (X : Int) (br : OA) (nr cr : Nat) (R : NI) (w : World) (h4 : Four P Q G H) (hr : Righ P Q G) (hXu : U64 X) (mo : no <= 80) (mr : nr <= 80) (hO : IntsIn w bo no O) (hR : FacsIn w br nr R) :
  Calls prog 22 #[gv P Q G H a n cap, .slice bo no co, .int .u64 X, .slice br nr cr] w (GivL w (if ordB no O && decide (nr = no) then no else 0) (fun i => comI P Q G H (powI X (O i + 1) Q) (R i))) := by
 have HX := hid hR
 have HZ := lain1 w (gc P Q G H a n cap) 25
 have HG0 := fun w' ho => (HZ.then (W' := w') ho).row 0 (by simp)
 have HW0 := hid HZ.old
 have HOr := hid fun wx (ho : Old w wx) => zbU bo no co O wx (by omega) (hO.old ho)
 cases ho : ordB no O with
 | false =>
  rw [ho] at HOr
  clear ho hO hR h4 hr HG0
  go_enter func22, ntmps22
  go_upto_region 1 with fail
  generalize w.alloc (.cells (gc P Q G H a n cap) 25) = W at *
  go_wp2_with (go_at_call 50; refine (HOr.out _ HW0.out).mono ?_; rintro e w1 ⟨rfl, o1⟩)
  go_ret
  exact zaG _ (HW0.out.trans o1)
 | true =>
  rw [ho] at HOr
  have hP := zaA.1 ho
  clear ho
  by_cases hn : nr = no
  ·subst hn
   have HB : Hid (∀ i, i < nr -> 0 <= O i /\ O i < 1000) := fun i hi => by have := hP.2.1 i hi; omega
   have m0 : 0 < nr := hP.1
   have HCo := hid fun wx (hx : Old w wx) => zbK bo nr co O wx mr (hO.old hx) HB.out
   have HUj : Hid (∀ i, i < nr -> U64 (O i + 1)) := fun i hi => by have := HB.out i hi; exact ⟨by omega, by omega⟩
   obtain ⟨F, hF⟩ : ∃ F : Nat -> Int, F = fun i => comI P Q G H (powI X (O i + 1) Q) (R i) := ⟨_, rfl⟩
   have HFi : Hid (∀ i, F i = comI P Q G H (powI X (O i + 1) Q) (R i)) := fun i => by rw [hF]
   rw [<- hF]
   obtain ⟨K, hK0⟩ : ∃ K : Nat -> Int, K = fun i => O i + 1 := ⟨_, rfl⟩
   have HK : Hid (∀ i, K i = O i + 1) := fun i => by rw [hK0]
   have HUk : Hid (∀ i, i < nr -> U64 (K i)) := fun i hi => by rw [HK.out]; exact HUj.out i hi
   rw [<- hK0] at HCo
   have HRu := hid hR.u64
   have H4 := hid h4
   have HRi := hid hr
   clear hF hO hR h4 hr hP HB hK0 HUj
   simp only [decide_true, Bool.and_self, if_true]
   have hmk := zaP nr mr
   go_enter func22, ntmps22
   go_upto_region 1 with fail
   generalize w.alloc (.cells (gc P Q G H a n cap) 25) = W at *
   have HG := hid HG0
   clear HG0
   go_upto_region 3 with (go_at_call 50; refine (HOr.out _ HW0.out).mono ?_; rintro e w1 ⟨rfl, o1⟩)
   go_upto_region 4 with fail
   have HFu := zaC w1 nr F
   have HW1 : Hid (Old W (w1.alloc (.cells (madeCells #[Value.int .u64 0] nr) 22))) := o1.alloc _
   have hs1 := o1.size
   generalize w1.alloc (.cells (madeCells #[Value.int .u64 0] nr) 22) = W1 at *
   go_upto_region 5 with (go_at_call 58; refine (HCo.out _ (HW0.out.trans HW1.out)).mono ?_; rintro e w2 ⟨o2, bk, hbk, rfl, hful⟩; have HK2 : Hid (Full w2 bk nr K) := hful; have HFu2 : Hid (Full w2 w1.heap.size nr (upTo 0 F)) := HFu.old o2; have HW2 : Hid (Old W w2) := HW1.out.trans o2; have hne : bk ≠ w1.heap.size := (by have := HFu.lt; omega); clear hful o2)
   go_loopw [28] (fun iv wx => ∃ i : Nat, iv = .int .i64 (i : Int) /\ i <= nr /\ Hid (Full wx w1.heap.size nr (upTo i F)) /\ Hid (Full wx bk nr K) /\ Hid (Old W wx)) (fun iv _ => nr - (intOf iv).toNat)
   case atStart => exact ⟨0, rfl, Nat.zero_le _, HFu2, HK2, HW2⟩
   case round =>
    obtain ⟨i, rfl, hi1, HN, HKx, HW⟩ := hrel
    by_cases hlt : i < nr
    ·rcases HX.out with h0 | ⟨bx, ox, hqx, _, hrx⟩
     ·omega
     have HR := hid fun wx (hx : Old wr wx) => ((HW0.out.trans HW.out).trans hx).cellOf (hrx i hlt).1
     have HGr := hid fun wx (hx : Old wr wx) => HG.out _ (HW.out.trans hx)
     clear hrx
     subst hqx
     have ck := HKx.out.cell i hlt
     go_upto_region 7 with fail
     refine zaa 14 [.k (.slice (some ⟨w1.heap.size, 0, none⟩) nr nr), .k (.int .i64 (i : Int)), .k (gv P Q G H a n cap), .k (.int .u64 X), .k (.int .u64 (K i)), .k (.pointer (some ⟨w.heap.size, 1, none⟩)), .k (.int .u64 Q), .k (.int .u64 (powI X (K i) Q)), .k (.slice (some ⟨bx, ox, none⟩) nr cr), .k (.int .i64 (i : Int)), .k (.pointer (some ⟨bx, ox + i, none⟩)), .k (.int .u64 (R i)), .k (.int .u64 (F i)), .k (.pointer (some ⟨w1.heap.size, i, none⟩))] (Old wr) (by kernel_rfl) (by kernel_rfl) rfl ((Old.refl _).drew) ?st ?_
     case st =>
      refine .p <| .p <| .c (sts U25 HGr.out) <| .p <| .p <| .p <| .c (stf 1 U22 HGr.out) <| .c (stK old_R func61 (fun wx _ => zdS X (K i) Q hXu (HUk.out i hlt) wx)) <| .p <| .p <| .c (sti (c := cr) hlt U29) <| .c (stl U22 HR.out) <| .c (stK old_R func59 (fun wx _ => by rw [HFi.out, <- HK.out]; exact zep P Q G H a n cap _ (R i) wx H4.out HRi.out (zbi _ _ _) (HRu.out i hlt))) <| .c (sti0 (c := nr) hlt U29) .n
     intro t wx hR hk
     simp only [fill, Ent.val, zs0, zs1, zd1, zd0, zdn]
     have HNx := hid (HN.out.old hR)
     have HG1 := hid HNx.out.next
     have HKn : Hid (Full (wx.setCell ⟨w1.heap.size, i, none⟩ (.int .u64 (F i))) bk nr K) := (HKx.out.old hR).other (p := ⟨w1.heap.size, i, none⟩) hne _
     have HG2 : Hid (Old W (wx.setCell ⟨w1.heap.size, i, none⟩ (.int .u64 (F i)))) := (HW.out.trans hR).setCell hs1 _
     have q0 := HNx.out.cell i hlt
     have f0 := HNx.out.free i
     clear hR hk
     go_wp2_with fail
     go_roundw
     case rel => exact ⟨i + 1, zab i, by omega, HG1, HKn, HG2⟩
     case measure => simp [intOf]; omega
    ·have he : nr = i := by omega
     subst he
     have HD := hid (HN.out.done.nums (Nat.le_trans HW0.out.size hs1) (by omega))
     go_wp2_with fail
     go_ret
     exact ⟨HW0.out.trans HW.out, _, rfl, HD.out⟩
  ·have k1 : ¬ (nr : Int) = (no : Int) := by omega
   have k2 : ((nr : Int) != (no : Int)) = true := by simp; omega
   have HN : Hid ((if (true && decide (nr = no)) = true then no else 0) = 0) := by unfold Hid; simp [hn]
   clear hO hR h4 hr hP HG0
   rw [HN.out]
   go_enter func22, ntmps22
   go_upto_region 1 with fail
   generalize w.alloc (.cells (gc P Q G H a n cap) 25) = W at *
   go_wp2_with (go_at_call 50; refine (HOr.out _ HW0.out).mono ?_; rintro e w1 ⟨rfl, o1⟩)
   go_ret
   exact zaG _ (HW0.out.trans o1)
theorem zbN (C : NN) (j k : Nat) (hk : k < 6) : flatF C (6 * j + k) = C j k := by
 unfold flatF
 rw [show (6 * j + k) / 6 = j by omega, show (6 * j + k) % 6 = k by omega]
theorem make6_run (n : Nat) (h : n <= 1000) (w : World) : (Instr.makeSlice 29 (.int .i64 0) (.int .i64 (6 * (n : Int)))).run prog w = .ok (.slice (some ⟨w.heap.size, 0, none⟩) 0 (6 * n)) (w.alloc (.cells (madeCells #[Value.int .u64 0] (6 * n)) 22)) := by
 obtain ⟨i, hi, hzz⟩ := Option.map_eq_some_iff.1 zbj
 simp only [Prod.mk.injEq] at hzz
 obtain ⟨hz, hs, hb⟩ := hzz
 have hr := run_make (P := prog) w 29 22 i (.int .u64 0) U29 hi hz .i64 .i64 0 (6 * (n : Int)) (Int.le_refl _) (by omega) (by rw [hb]; omega) (by omega)
 have e : (6 * (n : Int)).toNat = 6 * n := by omega
 rw [e, hs, Nat.mul_one] at hr
 exact hr
theorem nums_two {w : World} {base k : Nat} {v : Value} {F : NI} {x y : Int} (h : w.ownsRow base 22 1 v (k + 2) ((List.range k).map (fun i => Value.int .u64 (F i)) ++ [.int .u64 x, .int .u64 y])) (hx : F k = x) (hy : F (k + 1) = y) : Nums w base v (k + 2) F := by
 unfold Nums
 rw [List.range_succ, List.range_succ, List.map_append, List.map_append]
 simpa [hx, hy] using h
theorem zcg (b : OA) (m c : Nat) (C : NN) (w : World) (hm : m <= 1000) (h : BoxsIn w b m C) :
  Calls prog 104 #[.slice b m c] w (GivL w (6 * m) (flatF C)) := by
 obtain ⟨i0, hi0, hz0, hz1, hz2⟩ := info_parts zbj
 have HX : Hid (BoxsIn w b m C) := h
 clear h
 have hmk := make6_run m hm
 have HO0 : Hid (Nums (w.alloc (.cells (madeCells #[Value.int .u64 0] (6 * m)) 22)) w.heap.size (.slice (some ⟨w.heap.size, 0, none⟩) 0 (6 * m)) 0 (flatF C)) := World.ownsRow_made w _ (6 * m) (Nat.le_refl _) (by unfold maxLen; omega) (by rw [size_madeCells]; omega)
 have HW0 : Hid (Old w (w.alloc (.cells (madeCells #[Value.int .u64 0] (6 * m)) 22))) := (Old.refl _).alloc _
 go_enter func104, ntmps104
 go_upto_region 2 with fail
 generalize w.alloc (.cells (madeCells #[Value.int .u64 0] (6 * m)) 22) = W1 at *
 go_upto_region 3 with fail
 go_loopw [3, 14] (fun v iv wx => ∃ i : Nat, iv = .int .i64 (i : Int) /\ i <= m /\ Hid (Nums wx w.heap.size v (6 * i) (flatF C)) /\ Hid (Old w wx)) (fun _ iv _ => m - (intOf iv).toNat)
 case atStart => exact ⟨0, rfl, Nat.zero_le _, HO0, HW0⟩
 case round =>
  obtain ⟨i, rfl, hi, HV, HO⟩ := hrel
  by_cases hlt : i < m
  ·rcases HX.out.old HO.out with h0 | ⟨bx, ox, hqx, _, hrx⟩
   ·omega
   have c0 : wr.cell? ⟨bx, ox + i * 6, none⟩ = some (.int .u64 (C i 0)) := (hrx i hlt 0 (by omega)).1
   have c1 := (hrx i hlt 1 (by omega)).1
   have c2 := (hrx i hlt 2 (by omega)).1
   have c3 := (hrx i hlt 3 (by omega)).1
   have c4 := (hrx i hlt 4 (by omega)).1
   have c5 := (hrx i hlt 5 (by omega)).1
   clear hrx
   subst hqx
   have HU : Hid (∀ k, k < 3 -> flatF C (6 * i + 2 * k) = tri7 (C i 0) (C i 2) (C i 4) k /\ flatF C (6 * i + 2 * k + 1) = tri7 (C i 1) (C i 3) (C i 5) k) := fun k hk => by
    rw [zbN C i (2 * k) (by omega), Nat.add_assoc, zbN C i (2 * k + 1) (by omega)]
    match k, hk with
    | 0, _ => exact ⟨rfl, rfl⟩
    | 1, _ => exact ⟨rfl, rfl⟩
    | 2, _ => exact ⟨rfl, rfl⟩
   generalize C i 0 = x0 at *
   generalize C i 1 = x1 at *
   generalize C i 2 = x2 at *
   generalize C i 3 = x3 at *
   generalize C i 4 = x4 at *
   generalize C i 5 = x5 at *
   go_upto_region 5 with fail
   have HVa : Hid (Nums (wr.alloc (.cells #[.int .u64 x0, .int .u64 x1, .int .u64 x2, .int .u64 x3, .int .u64 x4, .int .u64 x5] 74)) w.heap.size u3 (6 * i) (flatF C)) := HV.out.old ((Old.refl _).alloc _)
   have HOa : Hid (Old w (wr.alloc (.cells #[.int .u64 x0, .int .u64 x1, .int .u64 x2, .int .u64 x3, .int .u64 x4, .int .u64 x5] 74))) := HO.out.alloc _
   go_upto_region 6 with fail
   generalize wr.alloc (.cells #[.int .u64 x0, .int .u64 x1, .int .u64 x2, .int .u64 x3, .int .u64 x4, .int .u64 x5] 74) = Wb at *
   go_loopw [3, 19] (fun v sv wx => ∃ k : Nat, sv = .int .i64 (k : Int) /\ k <= 3 /\ Hid (Nums wx w.heap.size v (6 * i + 2 * k) (flatF C)) /\ Hid (Old w wx)) (fun _ sv _ => 3 - (intOf sv).toNat)
   case atStart => exact ⟨0, rfl, Nat.zero_le _, HVa, HOa⟩
   case round =>
    obtain ⟨k, rfl, hk, HV2, HO2⟩ := hrel
    by_cases hkl : k < 3
    ·have hU := HU.out k hkl
     have hbx := box_at x0 x1 x2 x3 x4 x5 k hkl
     generalize tri7 x0 x2 x4 k = xu at *
     generalize tri7 x1 x3 x5 k = xv at *
     have HU1 : Hid (flatF C (6 * i + 2 * k) = xu) := hU.1
     have HU2 : Hid (flatF C (6 * i + 2 * k + 1) = xv) := hU.2
     clear hU
     have k1 : (k : Int) < 3 := by omega
     go_upto_region 8 with fail
     have HVp : Hid (Nums (wr.alloc (.cells #[.int .u64 xu, .int .u64 xv] 69)) w.heap.size u3 (6 * i + 2 * k) (flatF C)) := HV2.out.old ((Old.refl _).alloc _)
     have HOp : Hid (Old w (wr.alloc (.cells #[.int .u64 xu, .int .u64 xv] 69))) := HO2.out.alloc _
     have e0 : (wr.alloc (.cells #[.int .u64 xu, .int .u64 xv] 69)).cell? ⟨wr.heap.size, 0, none⟩ = some (.int .u64 xu) := Y0 (heap_alloc_last _ _)
     have e1 : (wr.alloc (.cells #[.int .u64 xu, .int .u64 xv] 69)).cell? ⟨wr.heap.size, 1, none⟩ = some (.int .u64 xv) := Y1 (heap_alloc_last _ _)
     have hb : w.heap.size <= (wr.alloc (.cells #[.int .u64 xu, .int .u64 xv] 69)).heap.size := HOp.out.size
     generalize wr.heap.size = sp at *
     generalize wr.alloc (.cells #[.int .u64 xu, .int .u64 xv] 69) = Wp at *
     go_wp2_with (at_builtin; refine wpList_append_own _ rfl _ _ 29 rfl w.heap.size 22 i0 (.int .u64 0) 1 8 U29 hi0 hz0 hz1 hz2 rfl (by decide) _ _ _ rfl (World.ownsRow.alloc HVp.out _) ⟨Wp.heap.size, 0, none⟩ 2 2 [.int .u64 xu, .int .u64 xv] rfl rfl ?c1 ?c2 ?c3 ?c4 ?c5 ?_)
     case c1 => exact World.news_of_block (heap_alloc_last _ _)
     case c2 => intro u hu; simp at hu; rcases hu with rfl | rfl <;> rfl
     case c3 => unfold maxLen; omega
     case c4 => omega
     case c5 => simp; omega
     intro v' w1 hown' hgrow hne
     have HV3 : Hid (Nums w1 w.heap.size v' (6 * i + 2 * (k + 1)) (flatF C)) := nums_two (k := 6 * i + 2 * k) hown' HU1.out HU2.out
     have HO3 : Hid (Old w w1) := zcj HOp.out HVp.out hgrow
     clear hown' hgrow hne
     go_wp2_with fail
     go_roundw
     case rel => exact ⟨k + 1, zab k, by omega, HV3, HO3⟩
     case measure => simp [intOf]; omega
    ·have hk3 : k = 3 := by omega
     subst hk3
     have HV3 : Hid (Nums wr w.heap.size u3 (6 * (i + 1)) (flatF C)) := by have := HV2.out; rwa [show 6 * i + 2 * 3 = 6 * (i + 1) by omega] at this
     go_wp2_with fail
     go_roundw
     case rel => exact ⟨i + 1, zab i, by omega, HV3, HO2⟩
     case measure => simp [intOf]; omega
  ·have he : m = i := by omega
   subst he
   go_wp2_with fail
   go_ret
   exact ⟨HO.out, _, rfl, HV.out⟩
theorem lanswer_any : Lanswer := by
 intro P Q G H a n cap b1 n1 c1 X b2 n2 c2 Y e w h4 hr he m1 m2 mc1 mc2 h1 h2
 have HX : Hid (FacsIn w b1 n1 X) := h1
 have HY : Hid (FacsIn w b2 n2 Y) := h2
 have HZ := lain1 w (gc P Q G H a n cap) 25
 by_cases hn : n1 = n2
 ·subst hn
  obtain ⟨M, hM⟩ : ∃ M : Nat -> Int, M = fun k => mulI e (X k) Q := ⟨_, rfl⟩
  obtain ⟨F, hF⟩ : ∃ F : Nat -> Int, F = fun k => ansI Q e (X k) (Y k) := ⟨_, rfl⟩
  have H1 : Hid (∀ i wx, i < n1 -> Calls prog 72 #[.int .u64 e, .int .u64 (X i), .int .u64 Q] wx fun r w' => r = .returned (.int .u64 (M i)) /\ Old wx w') := fun i wx hi => (zcU e (X i) Q wx he.1 he.2 (h1.u64 i hi).1 (h1.u64 i hi).2).mono fun r w' ⟨h, k⟩ => ⟨by rw [h, hM], (Old.refl _).draws k⟩
  have H2 : Hid (∀ i wx, i < n1 -> Calls prog 71 #[.int .u64 (Y i), .int .u64 (M i), .int .u64 Q] wx fun r w' => r = .returned (.int .u64 (F i)) /\ Old wx w') := fun i wx hi => (zeg (Y i) (M i) Q wx (h2.u64 i hi).1 (h2.u64 i hi).2 (by rw [hM]; exact (zaI _ _ _).1) (by rw [hM]; exact (zaI _ _ _).2)).mono fun r w' ⟨h, k⟩ => ⟨by rw [h, hF, hM]; rfl, (Old.refl _).draws k⟩
  rw [<- hF]
  clear hF hM he h1 h2 h4 hr
  have hmk := zaP n1 m1
  go_enter func43, ntmps43
  go_upto_region 1 with fail
  generalize hW : w.alloc (.cells (gc P Q G H a n cap) 25) = W at *
  clear hW
  go_upto_region 4 with fail
  have HFu := zaC W n1 F
  have HWx : Hid (Old W (W.alloc (.cells (madeCells #[Value.int .u64 0] n1) 22))) := (Old.refl W).alloc _
  have hlt0 : W.heap.size < (W.alloc (.cells (madeCells #[Value.int .u64 0] n1) 22)).heap.size := HFu.lt
  generalize W.alloc (.cells (madeCells #[Value.int .u64 0] n1) 22) = W1 at *
  go_upto_region 5 with fail
  go_loopw [22] (fun iv wx => ∃ i : Nat, iv = .int .i64 (i : Int) /\ i <= n1 /\ Hid (Full wx W.heap.size n1 (upTo i F)) /\ Hid (Old W wx)) (fun iv _ => n1 - (intOf iv).toNat)
  case atStart => exact ⟨0, rfl, Nat.zero_le _, HFu, HWx⟩
  case round =>
   obtain ⟨i, rfl, hi1, HN, HW⟩ := hrel
   by_cases hlt : i < n1
   ·rcases HX.out with h0 | ⟨bx, ox, hqx, _, hrx⟩
    ·omega
    rcases HY.out with h0 | ⟨by_, oy, hqy, _, hry⟩
    ·omega
    have HT : Hid (∀ w', Old W w' -> w'.cell? ⟨w.heap.size, 1, none⟩ = some (.int .u64 Q) /\ w'.cell? ⟨bx, ox + i, none⟩ = some (.int .u64 (X i)) /\ w'.cell? ⟨by_, oy + i, none⟩ = some (.int .u64 (Y i))) := fun w' ho => ⟨(HZ.then ho).cell 0 1 (by simp) rfl, (HZ.old.trans ho).cellOf (hrx i hlt).1, (HZ.old.trans ho).cellOf (hry i hlt).1⟩
    clear hrx hry
    subst hqx hqy
    obtain ⟨dq, cx, cy⟩ := HT.out _ HW.out
    have HM : Hid (∀ wx, Calls prog 72 #[.int .u64 e, .int .u64 (X i), .int .u64 Q] wx fun r w' => r = .returned (.int .u64 (M i)) /\ Old wx w') := fun wx => H1.out i wx hlt
    have HA : Hid (∀ wx, Calls prog 71 #[.int .u64 (Y i), .int .u64 (M i), .int .u64 Q] wx fun r w' => r = .returned (.int .u64 (F i)) /\ Old wx w') := fun wx => H2.out i wx hlt
    go_upto_region 7 with fail
    go_region_held3 (fun w' => w'.cell? ⟨w.heap.size, 1, none⟩ = some (.int .u64 Q) /\ w'.cell? ⟨bx, ox + i, none⟩ = some (.int .u64 (X i)) /\ w'.cell? ⟨by_, oy + i, none⟩ = some (.int .u64 (Y i))) (first | exact HT.out _ (h5.setCell (Nat.le_refl _) _) | exact HT.out _ h5 | exact HT.out _ h4 | exact HT.out _ HW.out.drew) (first
     | (go_at_call 72; refine (HM.out _).mono ?_; rintro e w4 ⟨rfl, o4⟩; have h4 : Old W w4 := HW.out.drew.trans o4)
     | (go_at_call 71; refine (HA.out _).mono ?_; rintro e w5 ⟨rfl, o5⟩; have h5 : Old W w5 := h4.trans o5; have hful := HN.out.old (((Old.refl wr).drew.trans o4).trans o5); have q0 := hful.cell i hlt; have f0 := hful.free i))
    have HG : Hid (Full (w5.setCell ⟨W.heap.size, i, none⟩ (.int .u64 (F i))) W.heap.size n1 (upTo (i + 1) F)) := hful.next
    have HG2 : Hid (Old W (w5.setCell ⟨W.heap.size, i, none⟩ (.int .u64 (F i)))) := h5.setCell (Nat.le_refl _) _
    go_wp2_with fail
    go_roundw
    case rel => exact ⟨i + 1, zab i, by omega, HG, HG2⟩
    case measure => simp [intOf]; omega
   ·have he : n1 = i := by omega
    subst he
    go_wp2_with fail
    go_ret2
    exact zdg (by simp) (HN.out.done.nums HZ.old.size (by omega)) (HZ.old.trans HW.out)
 ·have k1 : ¬ (n1 : Int) = (n2 : Int) := by omega
  clear he h1 h2 h4 hr
  go_enter func43, ntmps43
  go_wp2_with fail
  go_ret2
  exact zdh (by simp [hn]) ((Old.refl _).alloc _)
def elB (P Q : Int) (n : Nat) (F : NI) : Bool := (List.range n).all fun i => inI P Q (F i)
theorem zaZ {P Q : Int} {n : Nat} {F : NI} : elB P Q n F = true ↔ ∀ i, i < n -> inI P Q (F i) = true := by simp [elB]
def cntB (n : Nat) : Bool := decide (1 <= n) && decide (n <= 64)
theorem cntB_iff {n : Nat} : cntB n = true ↔ 1 <= n /\ n <= 64 := by simp [cntB]
def lensB (nt nb : Nat) (L : Nat -> Nat) : Bool := cntB nt && (decide (nb = nt) && ((List.range nb).all (fun j => decide (L j = L 0)) && cntB (L 0)))
theorem zd6 {nt nb : Nat} {L : Nat -> Nat} : lensB nt nb L = true ↔ (1 <= nt /\ nt <= 64) /\ nb = nt /\ (∀ j, j < nb -> L j = L 0) /\ 1 <= L 0 /\ L 0 <= 64 := by
 simp [lensB, cntB_iff]
theorem lels_any (P Q G H : Int) (a : OA) (n cap : Nat) (b : OA) (l c : Nat) (F : NI) (w : World) (h4 : Four P Q G H) (hl : l <= 9223372036854775807) (h1 : FacsIn w b l F) :
  Calls prog 97 #[gv P Q G H a n cap, .slice b l c] w fun e w' => e = .returned (.bool (elB P Q l F)) /\ Old w w' := by
 have HX : Hid (FacsIn w b l F) := h1
 have HZ := lain1 w (gc P Q G H a n cap) 25
 have HI : Hid (∀ i wx, i < l -> Calls prog 52 #[gv P Q G H a n cap, .int .u64 (F i)] wx fun e w' => e = .returned (.bool (inI P Q (F i))) /\ Old wx w') := fun i wx hi => gin0 P Q G H (F i) a n cap wx h4.q0 h4.q1 (h1.u64 i hi).2
 clear h4 h1
 go_enter func97, ntmps97
 go_upto_region 1 with fail
 generalize hW : w.alloc (.cells (gc P Q G H a n cap) 25) = W at *
 clear hW
 go_upto_region 2 with fail
 go_loopw [9] (fun iv wx => ∃ i : Nat, iv = .int .i64 (i : Int) /\ i <= l /\ Hid (∀ j, j < i -> inI P Q (F j) = true) /\ Hid (Old W wx)) (fun iv _ => l - (intOf iv).toNat)
 case atStart => exact ⟨0, rfl, Nat.zero_le _, fun j hj => by omega, Old.refl _⟩
 case round =>
  obtain ⟨i, rfl, hi1, HJ, HW⟩ := hrel
  by_cases hlt : i < l
  ·rcases HX.out with h0 | ⟨bx, ox, hqx, _, hrx⟩
   ·omega
   have cx := (HZ.old.trans HW.out).cellOf (hrx i hlt).1
   clear hrx
   subst hqx
   have d0 := (HZ.then HW.out).cell 0 0 (by simp) rfl
   have d1 := (HZ.then HW.out).cell 0 1 (by simp) rfl
   have d2 := (HZ.then HW.out).cell 0 2 (by simp) rfl
   have d3 := (HZ.then HW.out).cell 0 3 (by simp) rfl
   have d4 := (HZ.then HW.out).cell 0 4 (by simp) rfl
   simp only [Nat.add_zero] at d0 d1 d2 d3 d4
   cases hin : inI P Q (F i) with
   | true =>
    have HM : Hid (inI P Q (F i) = true) := hin
    have HC : Hid (∀ wx, Calls prog 52 #[gv P Q G H a n cap, .int .u64 (F i)] wx fun e w' => e = .returned (.bool true) /\ Old wx w') := fun wx => by have := HI.out i wx hlt; rwa [hin] at this
    clear hin
    go_wp2_with (go_at_call 52; refine (HC.out _).mono ?_; rintro e w1 ⟨rfl, o1⟩)
    go_roundw
    case rel => exact ⟨i + 1, zab i, by omega, zav HJ.out HM.out, HW.out.trans o1⟩
    case measure => simp [intOf]; omega
   | false =>
    have HN : Hid (elB P Q l F = false) := no_of fun hc => by have := zaZ.1 hc i hlt; rw [hin] at this; cases this
    have HC : Hid (∀ wx, Calls prog 52 #[gv P Q G H a n cap, .int .u64 (F i)] wx fun e w' => e = .returned (.bool false) /\ Old wx w') := fun wx => by have := HI.out i wx hlt; rwa [hin] at this
    clear hin
    go_wp2_with (go_at_call 52; refine (HC.out _).mono ?_; rintro e w1 ⟨rfl, o1⟩)
    go_ret
    exact ⟨zad HN.out.symm, (HZ.old.trans HW.out).trans o1⟩
  ·have he : l = i := by omega
   subst he
   have HN : Hid (elB P Q l F = true) := zaZ.2 HJ.out
   go_wp2_with fail
   go_ret
   exact ⟨zad HN.out.symm, HZ.old.trans HW.out⟩
theorem zdD (n : Nat) (w : World) (hn : n <= 9223372036854775807) :
  Calls prog 137 #[.int .i64 (n : Int)] w fun e w' => e = .returned (.bool (cntB n)) /\ w' = w := by
 by_cases h1 : 1 <= n
 ·have HE : Hid (cntB n = decide (n <= 64)) := by unfold Hid cntB; simp [h1]
  by_cases h2 : n <= 64
  ·have HE2 : Hid (cntB n = true) := HE.out.trans (by simp [h2])
   clear HE
   have k1 : (1 : Int) <= (n : Int) := by omega
   have k2 : (n : Int) <= 64 := by omega
   go_enter func137, ntmps137
   go_wp2_with fail
   go_ret
   exact ⟨zad HE2.out.symm, by first | trivial | rfl⟩
  ·have HE2 : Hid (cntB n = false) := HE.out.trans (by simp [h2])
   clear HE
   have k1 : (1 : Int) <= (n : Int) := by omega
   have k2 : ¬ (n : Int) <= 64 := by omega
   go_enter func137, ntmps137
   go_wp2_with fail
   go_ret
   exact ⟨zad HE2.out.symm, by first | trivial | rfl⟩
 ·have HE : Hid (cntB n = false) := by unfold Hid cntB; simp [h1]
  have k1 : ¬ (1 : Int) <= (n : Int) := by omega
  go_enter func137, ntmps137
  go_wp2_with fail
  go_ret
  exact ⟨zad HE.out.symm, by first | trivial | rfl⟩
theorem llens_any (bt : OA) (nt ct : Nat) (T : NI) (bb : OA) (nb cb : Nat) (BA : Nat -> Option Addr) (L C : Nat -> Nat) (B : NN) (w : World) (hcl : ClaimIn w bt nt ct T bb nb cb BA L C B) :
  Calls prog 96 #[cv bt nt ct bb nb cb] w fun e w' => e = .returned (.bool (lensB nt nb L)) /\ Old w w' := by
 have HB : Hid (ListsIn w bb nb BA L C B) := hcl.bas
 have HZ := lain1 w (cc bt nt ct bb nb cb) 50
 have mt : nt <= 9223372036854775807 := Nat.le_trans hcl.tc hcl.tm
 have mb : nb <= 9223372036854775807 := Nat.le_trans hcl.bc hcl.bm
 clear hcl
 have z0 := HZ.cell 0 0 (by simp) rfl
 have z1 := HZ.cell 0 1 (by simp) rfl
 simp only [Nat.add_zero] at z0 z1
 cases ht : cntB nt with
 | false =>
  have HN : Hid (lensB nt nb L = false) := by unfold Hid lensB; simp [ht]
  have HC : Hid (∀ wx, Calls prog 137 #[.int .i64 (nt : Int)] wx fun e w' => e = .returned (.bool false) /\ w' = wx) := fun wx => by have := zdD nt wx mt; rwa [ht] at this
  clear ht
  go_enter func96, ntmps96
  go_wp2_with (go_at_call 137; refine (HC.out _).mono ?_; rintro e w1 ⟨rfl, rfl⟩)
  go_ret
  exact ⟨zad HN.out.symm, HZ.old⟩
 | true =>
  have HC : Hid (∀ wx, Calls prog 137 #[.int .i64 (nt : Int)] wx fun e w' => e = .returned (.bool true) /\ w' = wx) := fun wx => by have := zdD nt wx mt; rwa [ht] at this
  have t1 := (cntB_iff.1 ht).1
  by_cases hn : nb = nt
  ·subst hn
   have HE : Hid (lensB nb nb L = ((List.range nb).all (fun j => decide (L j = L 0)) && cntB (L 0))) := by unfold Hid lensB; simp [ht]
   clear ht
   have hB := HB.out
   rcases hB with h0 | ⟨bx, ox, hqx, _, hrx⟩
   ·omega
   have HR : Hid (∀ w' j, Old w w' -> j < nb -> w'.cell? ⟨bx, ox + j, none⟩ = some (.slice (BA j) (L j) (C j)) /\ L j <= 9223372036854775807) := fun w' j ho hj => ⟨ho.cellOf (hrx j hj).1, Nat.le_trans (hrx j hj).2.1 (hrx j hj).2.2.1⟩
   clear hrx
   subst hqx
   have c0 := HR.out _ 0 HZ.old t1
   simp only [Nat.add_zero] at c0
   have m0 := c0.2
   have e0 := c0.1
   clear c0
   have HC2 : Hid (∀ wx, Calls prog 137 #[.int .i64 (L 0 : Int)] wx fun e w' => e = .returned (.bool (cntB (L 0))) /\ w' = wx) := fun wx => zdD (L 0) wx m0
   generalize hl0 : L 0 = l0 at *
   have HL0 : Hid (L 0 = l0) := hl0
   clear hl0
   generalize hcb : cntB l0 = cl at *
   clear hcb
   have hpos : (0 : Int) < (nb : Int) := by omega
   go_enter func96, ntmps96
   go_upto_region 1 with fail
   generalize hW : w.alloc (.cells (cc bt nb ct (some ⟨bx, ox, none⟩) nb cb) 50) = W at *
   clear hW
   go_upto_region 5 with (go_at_call 137; refine (HC.out _).mono ?_; rintro e w1 ⟨rfl, rfl⟩)
   go_loopw [28] (fun iv wx => ∃ i : Nat, iv = .int .i64 (i : Int) /\ i <= nb /\ Hid (∀ j, j < i -> L j = l0) /\ Hid (Old w wx)) (fun iv _ => nb - (intOf iv).toNat)
   case atStart => exact ⟨0, rfl, Nat.zero_le _, fun j hj => by omega, HZ.old⟩
   case round =>
    obtain ⟨i, rfl, hi1, HJ, HW⟩ := hrel
    by_cases hlt : i < nb
    ·obtain ⟨cx, mx⟩ := HR.out _ i HW.out hlt
     by_cases he : L i = l0
     ·have HM : Hid (L i = l0) := he
      rw [he] at cx
      clear he mx
      go_wp2_with fail
      go_roundw
      case rel => exact ⟨i + 1, zab i, by omega, zav HJ.out HM.out, HW.out⟩
      case measure => simp [intOf]; omega
     ·have k1 : ¬ (L i : Int) = (l0 : Int) := by omega
      have HN : Hid (((List.range nb).all (fun j => decide (L j = l0)) && cl) = false) := no_of fun hc => by
       rw [Bool.and_eq_true] at hc
       have := List.all_eq_true.1 hc.1 i (List.mem_range.2 hlt)
       simp at this
       exact he this
      go_wp2_with fail
      go_ret
      exact ⟨by rw [HE.out]; exact zad HN.out.symm, HW.out⟩
    ·have he : nb = i := by omega
     have HN : Hid (((List.range nb).all (fun j => decide (L j = l0)) && cl) = cl) := by
      have : (List.range nb).all (fun j => decide (L j = l0)) = true := List.all_eq_true.2 fun j hj => by simp [HJ.out j (he ▸ List.mem_range.1 hj)]
      unfold Hid
      rw [this, Bool.true_and]
     subst he
     go_wp2_with (go_at_call 137; refine (HC2.out _).mono ?_; rintro e w1 ⟨rfl, rfl⟩)
     go_ret
     exact ⟨by rw [HE.out, HN.out]; rfl, HW.out⟩
  ·have HN : Hid (lensB nt nb L = false) := by unfold Hid lensB; simp [hn]
   have k1 : ¬ (nb : Int) = (nt : Int) := by omega
   clear ht
   go_enter func96, ntmps96
   go_wp2_with (go_at_call 137; refine (HC.out _).mono ?_; rintro e w1 ⟨rfl, rfl⟩)
   go_ret
   exact ⟨zad HN.out.symm, HZ.old⟩
theorem zdY (P Q G H : Int) (a : OA) (n cap : Nat) (b : OA) (l c : Nat) (F : NI) (w : World) (h4 : Four P Q G H) (hl : l <= 9223372036854775807) (h1 : FacsIn w b l F) :
  Calls prog 103 #[gv P Q G H a n cap, .slice b l c] w fun e w' => e = .returned (.bool (elB P Q l F)) /\ Old w w' := by
 have HX : Hid (FacsIn w b l F) := h1
 have HZ := lain1 w (gc P Q G H a n cap) 25
 have HI : Hid (∀ i wx, i < l -> Calls prog 52 #[gv P Q G H a n cap, .int .u64 (F i)] wx fun e w' => e = .returned (.bool (inI P Q (F i))) /\ Old wx w') := fun i wx hi => gin0 P Q G H (F i) a n cap wx h4.q0 h4.q1 (h1.u64 i hi).2
 clear h4 h1
 go_enter func103, ntmps103
 go_upto_region 1 with fail
 generalize hW : w.alloc (.cells (gc P Q G H a n cap) 25) = W at *
 clear hW
 go_upto_region 2 with fail
 go_loopw [9] (fun iv wx => ∃ i : Nat, iv = .int .i64 (i : Int) /\ i <= l /\ Hid (∀ j, j < i -> inI P Q (F j) = true) /\ Hid (Old W wx)) (fun iv _ => l - (intOf iv).toNat)
 case atStart => exact ⟨0, rfl, Nat.zero_le _, fun j hj => by omega, Old.refl _⟩
 case round =>
  obtain ⟨i, rfl, hi1, HJ, HW⟩ := hrel
  by_cases hlt : i < l
  ·rcases HX.out with h0 | ⟨bx, ox, hqx, _, hrx⟩
   ·omega
   have cx := (HZ.old.trans HW.out).cellOf (hrx i hlt).1
   clear hrx
   subst hqx
   have d0 := (HZ.then HW.out).cell 0 0 (by simp) rfl
   have d1 := (HZ.then HW.out).cell 0 1 (by simp) rfl
   have d2 := (HZ.then HW.out).cell 0 2 (by simp) rfl
   have d3 := (HZ.then HW.out).cell 0 3 (by simp) rfl
   have d4 := (HZ.then HW.out).cell 0 4 (by simp) rfl
   simp only [Nat.add_zero] at d0 d1 d2 d3 d4
   cases hin : inI P Q (F i) with
   | true =>
    have HM : Hid (inI P Q (F i) = true) := hin
    have HC : Hid (∀ wx, Calls prog 52 #[gv P Q G H a n cap, .int .u64 (F i)] wx fun e w' => e = .returned (.bool true) /\ Old wx w') := fun wx => by have := HI.out i wx hlt; rwa [hin] at this
    clear hin
    go_wp2_with (go_at_call 52; refine (HC.out _).mono ?_; rintro e w1 ⟨rfl, o1⟩)
    go_roundw
    case rel => exact ⟨i + 1, zab i, by omega, zav HJ.out HM.out, HW.out.trans o1⟩
    case measure => simp [intOf]; omega
   | false =>
    have HN : Hid (elB P Q l F = false) := no_of fun hc => by have := zaZ.1 hc i hlt; rw [hin] at this; cases this
    have HC : Hid (∀ wx, Calls prog 52 #[gv P Q G H a n cap, .int .u64 (F i)] wx fun e w' => e = .returned (.bool false) /\ Old wx w') := fun wx => by have := HI.out i wx hlt; rwa [hin] at this
    clear hin
    go_wp2_with (go_at_call 52; refine (HC.out _).mono ?_; rintro e w1 ⟨rfl, o1⟩)
    go_ret
    exact ⟨zad HN.out.symm, (HZ.old.trans HW.out).trans o1⟩
  ·have he : l = i := by omega
   subst he
   have HN : Hid (elB P Q l F = true) := zaZ.2 HJ.out
   go_wp2_with fail
   go_ret
   exact ⟨zad HN.out.symm, HZ.old.trans HW.out⟩
def batB (P Q : Int) (n : Nat) (C : NN) : Bool := cnt8 n && elB P Q (6 * n) (flatF C)
theorem zaM {P Q : Int} {n : Nat} {C : NN} : batB P Q n C = true ↔ (1 <= n /\ n <= 8) /\ ∀ j, j < n -> ∀ k, k < 6 -> inI P Q (C j k) = true := by
 unfold batB
 rw [Bool.and_eq_true_iff, cnt8_iff, zaZ]
 refine and_congr_right fun _ => ⟨fun h j hj k hk => ?_, fun h i hi => h _ (by omega) _ (Nat.mod_lt _ (by omega))⟩
 have := h (6 * j + k) (by omega)
 rwa [zbN C j k hk] at this
theorem flat_u64 {w : World} {b : OA} {n : Nat} {C : NN} (h : BoxsIn w b n C) : ∀ i, i < 6 * n -> U64 (flatF C i) := fun i hi => h.u64 (by omega) (Nat.mod_lt _ (by omega))
def numL8 (base k : Nat) (F : NI) : Ent := .u (fun v w => Nums w base v k F) fun _ _ _ h ho => h.old ho
theorem zdB (P Q G H : Int) (a : OA) (n cap : Nat) (b : OA) (m c : Nat) (C : NN) (w : World) (h4 : Four P Q G H) (hm : m <= 1000) (h : BoxsIn w b m C) :
  Calls prog 51 #[gv P Q G H a n cap, .slice b m c] w (Ret w (.bool (batB P Q m C))) := by
 have HZ := lain1 w (gc P Q G H a n cap) 25
 have HG0 := fun w' ho => (HZ.then (W' := w') ho).row 0 (by simp)
 have HW0 : Hid (Old w (w.alloc (.cells (gc P Q G H a n cap) 25))) := HZ.old
 have HCn : Hid (∀ wx, Calls prog 102 #[.int .i64 (m : Int)] wx (Ret wx (.bool (cnt8 m)))) := fun wx => (zeV m wx (by omega)).mono fun e w' ⟨h, k⟩ => ⟨h, k ▸ Old.refl _⟩
 clear HZ
 cases hc : cnt8 m with
 | true =>
  rw [hc] at HCn
  go_enter func51, ntmps51
  go_upto_region 1 with fail
  generalize w.alloc (.cells (gc P Q G H a n cap) 25) = W at *
  have HG : ∀ wx, Old W wx -> wx.heap[w.heap.size]? = some (.cells (gc P Q G H a n cap) 25 (0, 0)) := HG0
  refine zaa 10 [.k (.slice b m c), .k (.int .i64 (m : Nat)), .k (.bool true), .k (.bool true), .k (gv P Q G H a n cap), .k (.slice b m c), numL8 W.heap.size (6 * m) (flatF C), .k (.bool (elB P Q (6 * m) (flatF C))), .k (.bool (elB P Q (6 * m) (flatF C))), .k (.bool (elB P Q (6 * m) (flatF C)))] (Old W) (by kernel_rfl) (by kernel_rfl) rfl ((Old.refl _).drew) ?st ?_
  case st =>
   refine .p <| .p <| .c (stK old_R func102 (fun wx _ => HCn.out wx)) <| .p <| .c (sts U25 HG) <| .p <| .c (stC (args := fun t => #[.slice b m c]) old_R func104 (fun t wx hR _ => (zcg b m c C wx hm (h.old (HW0.out.trans hR))).mono fun r w' ⟨ho, v, hr, hN⟩ => ⟨v, hr, ho, hN.mono hR.size⟩)) <| .c (stC (args := fun t => #[gv P Q G H a n cap, t 6]) old_R func103 fun t wx hR hd => ?_) <| .p <| .c stp .n
   have hN : Nums wx W.heap.size (t 6) (6 * m) (flatF C) := hd 6 (by kernel_rfl)
   obtain ⟨b', c', e, _, hf⟩ := hN.facs (flat_u64 h)
   rw [e]
   exact (zdY P Q G H a n cap b' (6 * m) c' (flatF C) wx h4 (by omega) hf).mono fun r w' ⟨h, k⟩ => ⟨_, h, k, rfl⟩
  intro t wx hR hk
  simp only [fill, Ent.val, numL8, zs0, zs1, zd1, zd0, zdn]
  go_wp2_with fail
  go_ret
  exact ⟨by unfold batB; rw [hc]; rfl, HW0.out.trans hR⟩
 | false =>
  rw [hc] at HCn
  go_enter func51, ntmps51
  go_upto_region 1 with fail
  generalize w.alloc (.cells (gc P Q G H a n cap) 25) = W at *
  have HG : ∀ wx, Old W wx -> wx.heap[w.heap.size]? = some (.cells (gc P Q G H a n cap) 25 (0, 0)) := HG0
  refine zaa 10 [.k (.slice b m c), .k (.int .i64 (m : Nat)), .k (.bool false), .k (.bool false), .k undef, .k undef, .k undef, .k undef, .k (.bool false), .k (.bool false)] (Old W) (by kernel_rfl) (by kernel_rfl) rfl ((Old.refl _).drew) ?st ?_
  case st =>
   refine .p <| .p <| .c (stK old_R func102 (fun wx _ => HCn.out wx)) <| .p <| .c stn <| .c stn <| .c stn <| .c stn <| .p <| .c stp .n
  intro t wx hR hk
  simp only [fill, Ent.val, zs0, zs1, zd1, zd0, zdn]
  go_wp2_with fail
  go_ret
  exact ⟨by unfold batB; rw [hc]; rfl, HW0.out.trans hR⟩
def mixC (P Q G y : Int) (C : NN) (O : NI) (R : NN) : Nat -> Nat -> Int := fun i k => if k % 2 = 0 then mulI (C (O i).toNat k) (expI P Q G (R i (k / 2))) P else mulI (C (O i).toNat k) (expI P Q y (R i (k / 2))) P
theorem zdZ (P Q G y : Int) (C : NN) (O : NI) (R : NN) (i k : Nat) : U64 (mixC P Q G y C O R i k) := by
 unfold mixC
 split <;> exact zaI _ _ _
def mixB (P Q y : Int) (m : Nat) (C : NN) (no : Nat) (O : NI) (nρ : Nat) : Bool := decide (no = m) && (decide (nρ = m) && (ordB no O && (batB P Q m C && inI P Q y)))
def BoxF (w : World) (a : OA) (n : Nat) (C : NN) : Prop :=
 n = 0 ∨ ∃ b cs, a = some ⟨b, 0, none⟩ /\ w.heap[b]? = some (.cells cs 74 (0, 0)) /\ ∀ j, j < n -> ∀ k, k < 6 -> cs[j * 6 + k]? = some (.int .u64 (C j k)) /\ U64 (C j k)
theorem BoxF.boxs {w : World} {a : OA} {n : Nat} {C : NN} (h : BoxF w a n C) : BoxsIn w a n C := by
 rcases h with h | ⟨b, cs, rfl, hb, hr⟩
 ·exact Or.inl h
 ·exact Or.inr ⟨b, 0, rfl, (Array.getElem?_eq_some_iff.1 hb).1, fun j hj k hk => ⟨by rw [Nat.zero_add, cell_of_row _ _ (j * 6 + k) _ _ (0, 0) hb]; exact (hr j hj k hk).1, (hr j hj k hk).2⟩⟩
theorem BoxF.old {w w' : World} {a : OA} {n : Nat} {C : NN} (h : BoxF w a n C) (ho : Old w w') : BoxF w' a n C := by
 rcases h with h | ⟨b, cs, rfl, hb, hr⟩
 ·exact Or.inl h
 ·exact Or.inr ⟨b, cs, rfl, (ho.block _ (Array.getElem?_eq_some_iff.1 hb).1).trans hb, hr⟩
def GivB (w : World) (ok : Bool) (m : Nat) (C : NN) (r : Ending) (w' : World) : Prop := Old w w' /\ ∃ a, r = .returned (.tuple #[.slice a (if ok then m else 0) (if ok then m else 0), .bool ok]) /\ BoxF w' a (if ok then m else 0) C
theorem zea {w w' : World} {ok : Bool} {m : Nat} {C : NN} (hok : ok = false) (ho : Old w w') : GivB w ok m C (.returned (.tuple #[.slice none 0 0, .bool false])) w' := by
 subst hok
 exact ⟨ho, none, rfl, Or.inl rfl⟩
def bxV (p : Nat) (C : NN) : Nat -> Value := fun q => .int .u64 (upTo p (flatF C) q)
theorem boxinfo : (prog.info? 74).map (fun i => (i.zero, i.size, i.bytes)) = some (some (.agg #[.int .u64 0, .int .u64 0, .int .u64 0, .int .u64 0, .int .u64 0, .int .u64 0]), 6, 48) := by kernel_rfl
theorem makeb_run (m : Nat) (h : m <= 80) (w : World) : (Instr.makeSlice 26 (.int .i64 (m : Int)) (.int .i64 (m : Int))).run prog w = .ok (.slice (some ⟨w.heap.size, 0, none⟩) m m) (w.alloc (.cells (madeCells #[Value.int .u64 0, Value.int .u64 0, Value.int .u64 0, Value.int .u64 0, Value.int .u64 0, Value.int .u64 0] (m * 6)) 74)) := by
 obtain ⟨i, hi, hzz⟩ := Option.map_eq_some_iff.1 boxinfo
 simp only [Prod.mk.injEq] at hzz
 obtain ⟨hz, hs, hb⟩ := hzz
 have hr := run_make (P := prog) w 26 74 i _ U26 hi hz .i64 .i64 (m : Int) (m : Int) (by omega) (Int.le_refl _) (by rw [hb]; omega) (by omega)
 rw [Int.toNat_natCast, hs] at hr
 exact hr
theorem fulV_boxs {w : World} {b m : Nat} {C : NN} (h : FulV w b (m * 6) 74 (bxV (m * 6) C)) (hC : ∀ i k, U64 (C i k)) : BoxF w (some ⟨b, 0, none⟩) m C := Or.inr ⟨b, _, rfl, h, fun j hj k hk => ⟨by
 rw [List.getElem?_toArray, List.getElem?_map, List.getElem?_range (by omega)]
 show some (bxV (m * 6) C (j * 6 + k)) = _
 unfold bxV upTo
 rw [if_pos (by omega), show j * 6 + k = 6 * j + k by omega, zbN C j k hk], hC _ _⟩⟩
theorem bxV_next {w : World} {b m p : Nat} {C : NN} {x z : Int} (h : FulV w b (m * 6) 74 (bxV p C)) (hx : flatF C p = x) (hz : flatF C (p + 1) = z) : FulV ((w.setCell ⟨b, p, none⟩ (.int .u64 x)).setCell ⟨b, p + 1, none⟩ (.int .u64 z)) b (m * 6) 74 (bxV (p + 2) C) :=
 ((h.set p (.int .u64 x)).set (p + 1) (.int .u64 z)).congr fun k hk => by
  unfold bxV upTo
  by_cases h1 : k = p + 1
  ·rw [if_pos h1, if_pos (by omega), h1, hz]
  ·rw [if_neg h1]
   by_cases h2 : k = p
   ·rw [if_pos h2, if_pos (by omega), h2, hx]
   ·rw [if_neg h2]
    by_cases h3 : k < p
    ·rw [if_pos h3, if_pos (by omega)]
    ·rw [if_neg h3, if_neg (by omega)]
theorem smix_any (P Q G H : Int) (a : OA) (n cap : Nat) (y : Int) (bi : OA) (m ci : Nat) (C : NN) (bo : OA) (no co : Nat) (O : NI) (bρ : OA) (nρ cρ : Nat) (R : NN) (w : World) (h4 : Four P Q G H) (hr : Righ P Q G) (hy : U64 y) (mm : m <= 80) (mo : no <= 80) (mρ : nρ <= 80) (hC : BoxsIn w bi m C) (hO : IntsIn w bo no O) (hR : RhoIn w bρ nρ R) :
  Calls prog 15 #[gv P Q G H a n cap, .int .u64 y, .slice bi m ci, .slice bo no co, .slice bρ nρ cρ] w (GivB w (mixB P Q y m C no O nρ) m (mixC P Q G y C O R)) := by
 have HX := hid hO
 have HCx := hid hC
 have HRx := hid hR
 have HZ := lain1 w (gc P Q G H a n cap) 25
 have HG0 := fun w' ho => (HZ.then (W' := w') ho).row 0 (by simp)
 have HW0 := hid HZ.old
 have HOr := hid fun wx (ho : Old w wx) => zbU bo no co O wx (by omega) (hO.old ho)
 have HBa := hid fun wx (ho : Old w wx) => zdB P Q G H a n cap bi m ci C wx h4 (by omega) (hC.old ho)
 have HIn : Hid (∀ wx, Calls prog 52 #[gv P Q G H a n cap, .int .u64 y] wx (Ret wx (.bool (inI P Q y)))) := fun wx => gin0 P Q G H y a n cap wx h4.q0 h4.q1 hy.2
 have hcases : no ≠ m ∨ (no = m /\ nρ ≠ m) ∨ (no = m /\ nρ = m /\ ordB no O = false) ∨ (no = m /\ nρ = m /\ ordB no O = true /\ batB P Q m C = false) ∨ (no = m /\ nρ = m /\ ordB no O = true /\ batB P Q m C = true /\ inI P Q y = false) ∨ (no = m /\ nρ = m /\ ordB no O = true /\ batB P Q m C = true /\ inI P Q y = true) := by
  by_cases h1 : no = m
  ·by_cases h2 : nρ = m
   ·cases h3 : ordB no O
    ·exact Or.inr (Or.inr (Or.inl ⟨h1, h2, rfl⟩))
    ·cases h5 : batB P Q m C
     ·exact Or.inr (Or.inr (Or.inr (Or.inl ⟨h1, h2, rfl, rfl⟩)))
     ·cases h6 : inI P Q y
      ·exact Or.inr (Or.inr (Or.inr (Or.inr (Or.inl ⟨h1, h2, rfl, rfl, rfl⟩))))
      ·exact Or.inr (Or.inr (Or.inr (Or.inr (Or.inr ⟨h1, h2, rfl, rfl, rfl⟩))))
   ·exact Or.inr (Or.inl ⟨h1, h2⟩)
  ·exact Or.inl h1
 rcases hcases with h1 | ⟨h1, h2⟩ | ⟨h1, h2, h3⟩ | ⟨h1, h2, h3, h5⟩ | ⟨h1, h2, h3, h5, h6⟩ | ⟨h1, h2, h3, h5, h6⟩
 ·have k1 : ((no : Int) != (m : Int)) = true := by simp; omega
  have k2 : ¬ (no : Int) = (m : Int) := by omega
  have HN : Hid (mixB P Q y m C no O nρ = false) := by unfold Hid mixB; simp [h1]
  clear hC hO hR h4 hr
  go_enter func15, ntmps15
  go_upto_region 1 with fail
  generalize w.alloc (.cells (gc P Q G H a n cap) 25) = W at *
  have HG := hid HG0
  go_wp2_with (first
   | (go_at_call 50; refine (HOr.out _ HW0.out).mono ?_; rintro e w1 ⟨rfl, o1⟩; have g1 := HG.out _ o1; have d0 := Y0 g1; have d1 := Y1 g1; have d2 := Y2 g1; have d3 := Y3 g1; have d4 := Y4 g1; clear g1)
   | (go_at_call 51; refine (HBa.out _ (HW0.out.trans o1)).mono ?_; rintro e w2 ⟨rfl, o2⟩; have g2 := HG.out _ (o1.trans o2); have d5 := Y0 g2; have d6 := Y1 g2; have d7 := Y2 g2; have d8 := Y3 g2; have d9 := Y4 g2; clear g2)
   | (go_at_call 52; refine (HIn.out _).mono ?_; rintro e w3 ⟨rfl, o3⟩))
  go_ret2
  exact zea HN.out HW0.out
 ·have k0 : ((no : Int) != (m : Int)) = false := by simp; omega
  have k1 : ((nρ : Int) != (m : Int)) = true := by simp; omega
  have k2 : ¬ (nρ : Int) = (m : Int) := by omega
  have HN : Hid (mixB P Q y m C no O nρ = false) := by unfold Hid mixB; simp [h2]
  clear hC hO hR h4 hr
  go_enter func15, ntmps15
  go_upto_region 1 with fail
  generalize w.alloc (.cells (gc P Q G H a n cap) 25) = W at *
  have HG := hid HG0
  go_wp2_with (first
   | (go_at_call 50; refine (HOr.out _ HW0.out).mono ?_; rintro e w1 ⟨rfl, o1⟩; have g1 := HG.out _ o1; have d0 := Y0 g1; have d1 := Y1 g1; have d2 := Y2 g1; have d3 := Y3 g1; have d4 := Y4 g1; clear g1)
   | (go_at_call 51; refine (HBa.out _ (HW0.out.trans o1)).mono ?_; rintro e w2 ⟨rfl, o2⟩; have g2 := HG.out _ (o1.trans o2); have d5 := Y0 g2; have d6 := Y1 g2; have d7 := Y2 g2; have d8 := Y3 g2; have d9 := Y4 g2; clear g2)
   | (go_at_call 52; refine (HIn.out _).mono ?_; rintro e w3 ⟨rfl, o3⟩))
  go_ret2
  exact zea HN.out HW0.out
 ·subst h2
  subst h1
  rw [h3] at HOr
  have HN : Hid (mixB P Q y no C no O no = false) := by unfold Hid mixB; simp [h3]
  clear hC hO hR h4 hr h3
  go_enter func15, ntmps15
  go_upto_region 1 with fail
  generalize w.alloc (.cells (gc P Q G H a n cap) 25) = W at *
  have HG := hid HG0
  go_wp2_with (first
   | (go_at_call 50; refine (HOr.out _ HW0.out).mono ?_; rintro e w1 ⟨rfl, o1⟩; have g1 := HG.out _ o1; have d0 := Y0 g1; have d1 := Y1 g1; have d2 := Y2 g1; have d3 := Y3 g1; have d4 := Y4 g1; clear g1)
   | (go_at_call 51; refine (HBa.out _ (HW0.out.trans o1)).mono ?_; rintro e w2 ⟨rfl, o2⟩; have g2 := HG.out _ (o1.trans o2); have d5 := Y0 g2; have d6 := Y1 g2; have d7 := Y2 g2; have d8 := Y3 g2; have d9 := Y4 g2; clear g2)
   | (go_at_call 52; refine (HIn.out _).mono ?_; rintro e w3 ⟨rfl, o3⟩))
  go_ret2
  exact zea HN.out (HW0.out.trans o1)
 ·subst h2
  subst h1
  rw [h3] at HOr
  rw [h5] at HBa
  have HN : Hid (mixB P Q y no C no O no = false) := by unfold Hid mixB; simp [h5]
  clear hC hO hR h4 hr h3 h5
  go_enter func15, ntmps15
  go_upto_region 1 with fail
  generalize w.alloc (.cells (gc P Q G H a n cap) 25) = W at *
  have HG := hid HG0
  go_wp2_with (first
   | (go_at_call 50; refine (HOr.out _ HW0.out).mono ?_; rintro e w1 ⟨rfl, o1⟩; have g1 := HG.out _ o1; have d0 := Y0 g1; have d1 := Y1 g1; have d2 := Y2 g1; have d3 := Y3 g1; have d4 := Y4 g1; clear g1)
   | (go_at_call 51; refine (HBa.out _ (HW0.out.trans o1)).mono ?_; rintro e w2 ⟨rfl, o2⟩; have g2 := HG.out _ (o1.trans o2); have d5 := Y0 g2; have d6 := Y1 g2; have d7 := Y2 g2; have d8 := Y3 g2; have d9 := Y4 g2; clear g2)
   | (go_at_call 52; refine (HIn.out _).mono ?_; rintro e w3 ⟨rfl, o3⟩))
  go_ret2
  exact zea HN.out ((HW0.out.trans o1).trans o2)
 ·subst h2
  subst h1
  rw [h3] at HOr
  rw [h5] at HBa
  rw [h6] at HIn
  have HN : Hid (mixB P Q y no C no O no = false) := by unfold Hid mixB; simp [h6]
  clear hC hO hR h4 hr h3 h5 h6
  go_enter func15, ntmps15
  go_upto_region 1 with fail
  generalize w.alloc (.cells (gc P Q G H a n cap) 25) = W at *
  have HG := hid HG0
  go_wp2_with (first
   | (go_at_call 50; refine (HOr.out _ HW0.out).mono ?_; rintro e w1 ⟨rfl, o1⟩; have g1 := HG.out _ o1; have d0 := Y0 g1; have d1 := Y1 g1; have d2 := Y2 g1; have d3 := Y3 g1; have d4 := Y4 g1; clear g1)
   | (go_at_call 51; refine (HBa.out _ (HW0.out.trans o1)).mono ?_; rintro e w2 ⟨rfl, o2⟩; have g2 := HG.out _ (o1.trans o2); have d5 := Y0 g2; have d6 := Y1 g2; have d7 := Y2 g2; have d8 := Y3 g2; have d9 := Y4 g2; clear g2)
   | (go_at_call 52; refine (HIn.out _).mono ?_; rintro e w3 ⟨rfl, o3⟩))
  go_ret2
  exact zea HN.out (((HW0.out.trans o1).trans o2).trans o3)
 ·subst h2
  subst h1
  rw [h3] at HOr
  rw [h5] at HBa
  rw [h6] at HIn
  have HOk : mixB P Q y no C no O no = true := by unfold mixB; simp [h3, h5, h6]
  rw [HOk]
  have HPo := hid (zaA.1 h3)
  have HBi := hid ((zaM.1 h5).2)
  have H4 := hid h4
  have HRi := hid hr
  have HIy := hid h6
  obtain ⟨D, hD⟩ : ∃ D : Nat -> Nat -> Int, D = mixC P Q G y C O R := ⟨_, rfl⟩
  have HDe := hid hD
  rw [<- hD]
  clear hD HOk hC hO hR h4 hr h3 h5 h6
  have hmk := makeb_run no mo
  have HF0 : ∀ wx : World, Hid (FulV (wx.alloc (.cells (madeCells #[Value.int .u64 0, Value.int .u64 0, Value.int .u64 0, Value.int .u64 0, Value.int .u64 0, Value.int .u64 0] (no * 6)) 74)) wx.heap.size (no * 6) 74 (bxV 0 D)) := fun wx => fulV_new6 wx (no * 6) _ (.int .u64 0) _ fun k _ => by simp [bxV, upTo]
  go_enter func15, ntmps15
  go_upto_region 1 with fail
  generalize w.alloc (.cells (gc P Q G H a n cap) 25) = W at *
  have HG := hid HG0
  clear HG0
  go_upto_region 4 with (first
   | (go_at_call 50; refine (HOr.out _ HW0.out).mono ?_; rintro e w1 ⟨rfl, o1⟩; have g1 := HG.out _ o1; have d0 := Y0 g1; have d1 := Y1 g1; have d2 := Y2 g1; have d3 := Y3 g1; have d4 := Y4 g1; clear g1)
   | (go_at_call 51; refine (HBa.out _ (HW0.out.trans o1)).mono ?_; rintro e w2 ⟨rfl, o2⟩; have g2 := HG.out _ (o1.trans o2); have d5 := Y0 g2; have d6 := Y1 g2; have d7 := Y2 g2; have d8 := Y3 g2; have d9 := Y4 g2; clear g2)
   | (go_at_call 52; refine (HIn.out _).mono ?_; rintro e w3 ⟨rfl, o3⟩))
  have HW3 : Hid (Old W w3) := (o1.trans o2).trans o3
  clear o1 o2 o3 d0 d1 d2 d3 d4 d5 d6 d7 d8 d9
  go_upto_region 5 with fail
  have HF1 := HF0 w3
  have HW4 : Hid (Old W (w3.alloc (.cells (madeCells #[Value.int .u64 0, Value.int .u64 0, Value.int .u64 0, Value.int .u64 0, Value.int .u64 0, Value.int .u64 0] (no * 6)) 74))) := HW3.out.alloc _
  have hs3 := HW3.out.size
  generalize w3.alloc (.cells (madeCells #[Value.int .u64 0, Value.int .u64 0, Value.int .u64 0, Value.int .u64 0, Value.int .u64 0, Value.int .u64 0] (no * 6)) 74) = W4 at *
  generalize w3.heap.size = bl at *
  clear HF0 hmk
  go_upto_region 6 with fail
  go_loopw [51] (fun iv wx => ∃ i : Nat, iv = .int .i64 (i : Int) /\ i <= no /\ Hid (FulV wx bl (no * 6) 74 (bxV (i * 6) D)) /\ Hid (Old W wx)) (fun iv _ => no - (intOf iv).toNat)
  case atStart => exact ⟨0, rfl, Nat.zero_le _, by rw [Nat.zero_mul]; exact HF1, HW4⟩
  case round =>
   obtain ⟨i, rfl, hi, HN, HO⟩ := hrel
   by_cases hlt : i < no
   ·rcases HX.out with h0 | ⟨bx, ox, hqx, _, hrx⟩
    ·omega
    have cx := (HW0.out.trans HO.out).cellOf (hrx i hlt).1
    have hp := HPo.out.2.1 i hlt
    obtain ⟨p, hpe⟩ : ∃ p : Nat, O i = (p : Int) := ⟨(O i).toNat, by omega⟩
    have HPe : Hid ((O i).toNat = p) := by unfold Hid; omega
    rw [hpe] at cx hp
    have hpn : p < no := by omega
    clear hpe hp hrx
    subst hqx
    rcases HCx.out with h0 | ⟨bc, oc, hqc, _, hrc⟩
    ·omega
    have hcc : ∀ k, k < 6 -> wr.cell? ⟨bc, oc + p * 6 + k, none⟩ = some (.int .u64 (C p k)) /\ U64 (C p k) := fun k hk => ⟨(HW0.out.trans HO.out).cellOf (hrc p hpn k hk).1, (hrc p hpn k hk).2⟩
    have c0 : wr.cell? ⟨bc, oc + p * 6, none⟩ = some (.int .u64 (C p 0)) := (hcc 0 (by omega)).1
    have c1 := (hcc 1 (by omega)).1
    have c2 := (hcc 2 (by omega)).1
    have c3 := (hcc 3 (by omega)).1
    have c4 := (hcc 4 (by omega)).1
    have c5 := (hcc 5 (by omega)).1
    have HCu := hid fun k (hk : k < 6) => (hcc k hk).2
    have HCb := hid HN
    clear hrc hcc
    subst hqc
    go_upto_region 9 with fail
    clear c0 c1 c2 c3 c4 c5 cx
    go_loopw [60] (fun iv wx => ∃ k : Nat, iv = .int .i64 (k : Int) /\ k <= 3 /\ Hid (FulV wx bl (no * 6) 74 (bxV (i * 6 + k * 2) D)) /\ Hid (Old W wx)) (fun iv _ => 3 - (intOf iv).toNat)
    case atStart => exact ⟨0, rfl, Nat.zero_le _, by rw [Nat.zero_mul]; exact HCb, HO⟩
    case round =>
     obtain ⟨k, rfl, hk, HN2, HO2⟩ := hrel
     by_cases hkl : k < 3
     ·have k1 : (k : Int) < 3 := by omega
      have hbx := box_at (C p 0) (C p 1) (C p 2) (C p 3) (C p 4) (C p 5) k hkl
      have hU : tri7 (C p 0) (C p 2) (C p 4) k = C p (2 * k) /\ tri7 (C p 1) (C p 3) (C p 5) k = C p (2 * k + 1) := by
       match k, hkl with
       | 0, _ => exact ⟨rfl, rfl⟩
       | 1, _ => exact ⟨rfl, rfl⟩
       | 2, _ => exact ⟨rfl, rfl⟩
      rw [hU.1, hU.2] at hbx
      have HUu : Hid (U64 (C p (2 * k))) := HCu.out _ (by omega)
      have HVu : Hid (U64 (C p (2 * k + 1))) := HCu.out _ (by omega)
      have HDu : Hid (D i (2 * k) = mulI (C p (2 * k)) (expI P Q G (R i k)) P) := by
       unfold Hid; rw [HDe.out]; unfold mixC; rw [if_pos (by omega), HPe.out, show 2 * k / 2 = k by omega]
      have HDv : Hid (D i (2 * k + 1) = mulI (C p (2 * k + 1)) (expI P Q y (R i k)) P) := by
       unfold Hid; rw [HDe.out]; unfold mixC; rw [if_neg (by omega), HPe.out, show (2 * k + 1) / 2 = k by omega]
      rcases HRx.out with h0 | ⟨by_, oy, hqy, _, hry⟩
      ·omega
      have HRu := hid ((hry i hlt k hkl).2)
      have HRc0 := hid fun wx (hx : Old wr wx) => ((HW0.out.trans HO2.out).trans hx).cellOf (hry i hlt k hkl).1
      clear hry
      subst hqy
      clear hU
      generalize C p (2 * k) = xu at *
      generalize C p (2 * k + 1) = xv at *
      have HWp : Hid (Old wr (wr.alloc (.cells #[.int .u64 xu, .int .u64 xv] 69))) := (Old.refl _).alloc _
      have HPr0 : (wr.alloc (.cells #[.int .u64 xu, .int .u64 xv] 69)).heap[wr.heap.size]? = some (.cells #[.int .u64 xu, .int .u64 xv] 69 (0, 0)) := heap_alloc_last _ _
      go_upto_region 11 with fail
      generalize wr.heap.size = sp at *
      generalize wr.alloc (.cells #[.int .u64 xu, .int .u64 xv] 69) = Wp at *
      have HPr := hid fun wx (hx : Old Wp wx) => (hx.block _ (Array.getElem?_eq_some_iff.1 HPr0).1).trans HPr0
      have HRc := hid fun wx (hx : Old Wp wx) => HRc0.out _ (HWp.out.trans hx)
      have HGr := hid fun wx (hx : Old Wp wx) => HG.out _ ((HO2.out.trans HWp.out).trans hx)
      clear HPr0 HRc0 hbx
      refine zaa 15 [.k (.slice (some ⟨bl, 0, none⟩) no no), .k (.int .i64 (i : Int)), .k (.int .i64 (k : Int)), .k (gv P Q G H a n cap), .k (.int .u64 y), .k (pv xu xv), .k (.slice (some ⟨by_, oy, none⟩) no cρ), .k (.int .i64 (i : Int)), .k (.int .i64 (k : Int)), .k (.pointer (some ⟨by_, oy + i * 3, none⟩)), .k (.pointer (some ⟨by_, oy + i * 3 + k, none⟩)), .k (.int .u64 (R i k)), .k (pv (D i (2 * k)) (D i (2 * k + 1))), .k (.pointer (some ⟨bl, i * 6, none⟩)), .k (.pointer (some ⟨bl, i * 6 + k * 2, none⟩))] (Old Wp) (by kernel_rfl) (by kernel_rfl) rfl ((Old.refl _).drew) ?st ?_
      case st =>
       refine .p <| .p <| .p <| .c (sts U25 HGr.out) <| .p <| .c (sts U69 HPr.out) <| .p <| .p <| .p <| .c (stj (n := no) (c := cρ) 3 hlt U28) <| .c (sai hkl U63) <| .c (stl U22 HRc.out) <| .c (stK old_R func53 (fun wx _ => by rw [HDu.out, HDv.out]; exact gagain_any P Q G H a n cap y xu xv (R i k) wx H4.out HRi.out hy HUu.out HVu.out HRu.out)) <| .c (stj0 (n := no) (c := no) 6 hlt U26) <| .c (saj 2 hkl U74) .n
      intro t wx hR hk
      simp only [fill, Ent.val, zs0, zs1, zd1, zd0, zdn]
      have HNx := HN2.out.old (HWp.out.trans hR)
      have HG1 : Hid (FulV ((wx.setCell ⟨bl, i * 6 + k * 2, none⟩ (.int .u64 (D i (2 * k)))).setCell ⟨bl, i * 6 + k * 2 + 1, none⟩ (.int .u64 (D i (2 * k + 1)))) bl (no * 6) 74 (bxV (i * 6 + (k + 1) * 2) D)) := by
       have h := bxV_next HNx (x := D i (2 * k)) (z := D i (2 * k + 1)) (by rw [show i * 6 + k * 2 = 6 * i + 2 * k by omega, zbN D i (2 * k) (by omega)]) (by rw [show i * 6 + k * 2 + 1 = 6 * i + (2 * k + 1) by omega, zbN D i (2 * k + 1) (by omega)])
       rwa [show i * 6 + k * 2 + 2 = i * 6 + (k + 1) * 2 by omega] at h
      have HG2 : Hid (Old W ((wx.setCell ⟨bl, i * 6 + k * 2, none⟩ (.int .u64 (D i (2 * k)))).setCell ⟨bl, i * 6 + k * 2 + 1, none⟩ (.int .u64 (D i (2 * k + 1))))) := (((HO2.out.trans HWp.out).trans hR).setCell (p := ⟨bl, i * 6 + k * 2, none⟩) hs3 _).setCell (p := ⟨bl, i * 6 + k * 2 + 1, none⟩) hs3 _
      have q0 := HNx.cell (i * 6 + k * 2) (by omega)
      have q1 := HNx.cell (i * 6 + k * 2 + 1) (by omega)
      have f0 := HNx.free (i * 6 + k * 2)
      have f1 := HNx.free (i * 6 + k * 2 + 1)
      clear hR hk HNx HPr HRc HGr
      generalize D i (2 * k) = du at *
      generalize D i (2 * k + 1) = dv at *
      go_wp2_with fail
      go_roundw
      case rel => exact ⟨k + 1, zab k, by omega, HG1, HG2⟩
      case measure => simp [intOf]; omega
     ·have hk3 : k = 3 := by omega
      subst hk3
      have HN3 : Hid (FulV wr bl (no * 6) 74 (bxV ((i + 1) * 6) D)) := by have := HN2.out; rwa [show i * 6 + 3 * 2 = (i + 1) * 6 by omega] at this
      go_wp2_with fail
      go_roundw
      case rel => exact ⟨i + 1, zab i, by omega, HN3, HO2⟩
      case measure => simp [intOf]; omega
   ·have he : no = i := by omega
    subst he
    have HD' : Hid (BoxF wr (some ⟨bl, 0, none⟩) no D) := fulV_boxs HN.out (fun i k => by rw [HDe.out]; exact zdZ _ _ _ _ _ _ _ i k)
    go_wp2_with fail
    go_ret2
    exact ⟨HW0.out.trans HO.out, _, rfl, HD'.out⟩
end
section
open Go.RowKit
structure Mixd (P Q G H X Y Z y : Int) (n : Nat) (o : Nat -> Nat) (R S T : NI) (Rho : NN) (A B Pp : NI) (Ui Vi Uo Vo : NN) : Prop where
 gr : Righ P Q G
 hin : inI P Q H = true
 yin : inI P Q y = true
 ord : Ord8 n o
 n1 : 0 < n
 y0 : 0 <= Y
 z0 : 0 <= Z
 r0 : ∀ i, i < n -> 0 <= R i
 s0 : ∀ i, i < n -> 0 <= S i
 t0 : ∀ i, i < n -> 0 <= T i
 w0 : ∀ i, i < n -> ∀ w, 0 <= Rho i w
 a : ∀ i, i < n -> A i = comI P Q G H ((o i : Int) + 1) (R i)
 b : ∀ i, i < n -> B i = comI P Q G H (bE Q X o i) (S i)
 p0 : Pp 0 = bigI P Q G (A 0) (B 0) Y Z
 p : ∀ i, i + 1 < n -> Pp (i + 1) = mulI (expI P Q (Pp i) (dE Q X Y Z o (i + 1))) (expI P Q H (T (i + 1))) P
 ui : ∀ j, j < n -> ∀ w, inI P Q (Ui j w) = true
 vi : ∀ j, j < n -> ∀ w, inI P Q (Vi j w) = true
 uo : ∀ i, i < n -> ∀ w, Uo i w = mulI (Ui (o i) w) (expI P Q G (Rho i w)) P
 vo : ∀ i, i < n -> ∀ w, Vo i w = mulI (Vi (o i) w) (expI P Q y (Rho i w)) P
section
variable {P Q G H X Y Z y : Int} {n : Nat} {o : Nat -> Nat} {R S T : NI} {Rho : NN} {A B Pp : NI} {Ui Vi Uo Vo : NN}
theorem mod_nn {a Q : Int} (hQ : 0 < Q) : 0 <= a % Q := Int.emod_nonneg _ (by omega)
theorem dE_sum {P G : Int} (h : Righ P Q G) (X Y Z : Int) (o : Nat -> Nat) (i : Nat) : (dE Q X Y Z o i + Z) % Q = (Y * ((o i : Int) + 1) + bE Q X o i) % Q := by
 unfold dE
 rw [sub_back h.okq, za4 h.okq, zak, zaw h.okq]
 exact zbJ (zak _ _) rfl
theorem uE_mod {P G : Int} (h : Righ P Q G) (Y : Int) (R S : NI) (i : Nat) : uE Q Y R S i % Q = (Y * R i + S i) % Q := by
 unfold uE
 rw [za4 h.okq, zak, zaw h.okq]
 exact zbJ (zak _ _) rfl
theorem Mixd.rowA (m : Mixd P Q G H X Y Z y n o R S T Rho A B Pp Ui Vi Uo Vo) {i : Nat} (hi : i < n) : imI P Q (row28 i G (n + i) H) (exF Q X Y Z n o R S T Rho) (7 * n + 3) = A i := by
 have h := m.gr
 have c := h.com m.hin (m := (o i : Int) + 1) (r := R i) (by omega) (m.r0 i hi)
 rw [m.a i hi]
 refine h.row28 (by have := m.n1; omega) (by omega) h.gin m.hin (fun k => zdI h.q1' k) c.1 ?_
 rw [exF_a hi, exF_r hi, c.2]
 exact zan (h.pow_mod h.gin (mod_nn h.q1') (by omega) (zak _ _)) (h.pow_mod m.hin (mod_nn h.q1') (m.r0 i hi) (zak _ _))
theorem Mixd.rowB (m : Mixd P Q G H X Y Z y n o R S T Rho A B Pp Ui Vi Uo Vo) {i : Nat} (hi : i < n) : imI P Q (row28 (2 * n + i) G (3 * n + i) H) (exF Q X Y Z n o R S T Rho) (7 * n + 3) = B i := by
 have h := m.gr
 have c := h.com m.hin (m := bE Q X o i) (r := S i) (zdK _ _ _) (m.s0 i hi)
 rw [m.b i hi]
 refine h.row28 (by have := m.n1; omega) (by omega) h.gin m.hin (fun k => zdI h.q1' k) c.1 ?_
 rw [exF_b hi, exF_s hi, c.2]
 exact zan rfl (h.pow_mod m.hin (mod_nn h.q1') (m.s0 i hi) (zak _ _))
theorem Mixd.big (m : Mixd P Q G H X Y Z y n o R S T Rho A B Pp Ui Vi Uo Vo) {i : Nat} (hi : i < n) : inI P Q (bigI P Q G (A i) (B i) Y Z) = true /\ bigI P Q G (A i) (B i) Y Z % P = G ^ (dE Q X Y Z o i).toNat * H ^ (uE Q Y R S i).toNat % P := by
 rw [m.a i hi, m.b i hi]
 exact m.gr.big m.hin (by omega) (m.r0 i hi) (zdK _ _ _) (m.s0 i hi) m.y0 m.z0 (zcS _ _ _) (zbZ _ _ _).1 (dE_sum m.gr X Y Z o i) (uE_mod m.gr Y R S i)
theorem Mixd.rowD (m : Mixd P Q G H X Y Z y n o R S T Rho A B Pp Ui Vi Uo Vo) {i : Nat} (hi : i < n) : imI P Q (row28 (4 * n + i) G (5 * n + i) H) (exF Q X Y Z n o R S T Rho) (7 * n + 3) = bigI P Q G (A i) (B i) Y Z := by
 have h := m.gr
 have c := m.big hi
 refine h.row28 (by have := m.n1; omega) (by omega) h.gin m.hin (fun k => zdI h.q1' k) c.1 ?_
 rw [exF_d hi, exF_u hi, c.2]
theorem Mixd.pp (m : Mixd P Q G H X Y Z y n o R S T Rho A B Pp Ui Vi Uo Vo) : ∀ i, i < n -> inI P Q (Pp i) = true /\ Pp i % P = G ^ (pr (fun j => dE Q X Y Z o j) (i + 1)).toNat * H ^ (vE Q X Y Z o R S T i).toNat % P
 | 0, hi => by
  have c := m.big hi
  rw [m.p0]
  refine ⟨c.1, c.2.trans ?_⟩
  show _ = G ^ (1 * dE Q X Y Z o 0).toNat * H ^ (uE Q Y R S 0).toNat % P
  rw [Int.one_mul]
 | i + 1, hi => by
  have ih := Mixd.pp m i (by omega)
  rw [m.p i hi]
  have hd : 0 <= dE Q X Y Z o (i + 1) := zcS _ _ _
  exact m.gr.third m.hin ih.1 hd (m.t0 _ hi) (pr_nn (i + 1) fun j _ => zcS _ _ _) (vE_nn _ _ _ _ _ _ _ _ i) ih.2 (vE_nn _ _ _ _ _ _ _ _ (i + 1)) (by
   show addI (mulI (vE Q X Y Z o R S T i) (dE Q X Y Z o (i + 1)) Q) (T (i + 1)) Q % Q = _
   rw [za4 m.gr.okq, zak, zaw m.gr.okq]
   exact zbJ (zak _ _) rfl)
theorem Mixd.rowP (m : Mixd P Q G H X Y Z y n o R S T Rho A B Pp Ui Vi Uo Vo) {i : Nat} (hi : i + 1 < n) : imI P Q (row28 (4 * n + (i + 1)) (Pp i) (6 * n + i) H) (exF Q X Y Z n o R S T Rho) (7 * n + 3) = Pp (i + 1) := by
 have h := m.gr
 have c0 := m.pp i (by omega)
 have c1 := m.pp (i + 1) hi
 refine h.row28 (by omega) (by omega) c0.1 m.hin (fun k => zdI h.q1' k) c1.1 ?_
 have hd : 0 <= dE Q X Y Z o (i + 1) := zcS _ _ _
 rw [exF_d hi, exF_t hi, m.p i hi, zbd h.ok (h.exp_cong c0.1 hd) (h.exp_cong m.hin (m.t0 _ hi))]
 exact zan rfl (h.pow_mod m.hin (mod_nn h.q1') (m.t0 _ hi) (zak _ _))
theorem Mixd.rowL (m : Mixd P Q G H X Y Z y n o R S T Rho A B Pp Ui Vi Uo Vo) {B1 : NI} (hB : ∀ k, k < 7 * n + 3 -> k ≠ 7 * n - 1 -> B1 k = 1) (hH : B1 (7 * n - 1) = H) : imI P Q B1 (exF Q X Y Z n o R S T Rho) (7 * n + 3) = overI P (Pp (n - 1)) (expI P Q G (prodI Q (kF Q X Y Z) n)) := by
 have h := m.gr
 have hn := m.n1
 have c := m.pp (n - 1) (by omega)
 rw [show n - 1 + 1 = n by omega] at c
 have hpk := h.prod_order m.ord (kF Q X Y Z)
 have hl := h.last (k := prodI Q (kF Q X Y Z) n) c.1 (pr_nn n fun j _ => zcS _ _ _) (zaL _ _ _).1 c.2 hpk
 refine h.row1 (p := 7 * n - 1) (by omega) hB (by rw [hH]; exact m.hin) (fun k _ => zdI h.q1' k) hl.1 ?_
 rw [hH, exF_v hn]
 exact hl.2
theorem pw_prod {P Q G : Int} (h : Righ P Q G) (U c : NI) : ∀ n, (∀ j, j < n -> inI P Q (U j) = true) -> (∀ j, j < n -> 0 <= c j) -> prodI P (fun j => expI P Q (U j) (c j)) n % P = pw U c n % P := fun n hU hc => h.im_cong n hU hc
theorem Mixd.rowU (m : Mixd P Q G H X Y Z y n o R S T Rho A B Pp Ui Vi Uo Vo) {w : Nat} (hw : w < 3) : imI P Q (rowS8 (2 * n) n (fun i => Uo i w) (7 * n + w) G) (exF Q X Y Z n o R S T Rho) (7 * n + 3) = prodI P (fun j => expI P Q (Ui j w) (powI X ((j : Int) + 1) Q)) n := by
 have h := m.gr
 have hn := m.n1
 have hUo : ∀ i, i < n -> inI P Q (Uo i w) = true := fun i hi => by rw [m.uo i hi]; exact h.mul_in (m.ui _ (m.ord.lt i hi) w) (h.exp_in h.gin)
 refine h.rowS8 (by omega) (by omega) hUo h.gin (fun k => zdI h.q1' k) (h.prod_in n fun j hj => h.exp_in (m.ui j hj w)) ?_
 rw [pw_prod h (fun j => Ui j w) (fun j => powI X ((j : Int) + 1) Q) n (fun j hj => m.ui j hj w) (fun j _ => zdK _ _ _), exF_w hn, zdX n (fun i hi => ⟨rfl, exF_b hi⟩)]
 refine h.mixed h.gin m.ord (U := fun j => Ui j w) (c := fun j => powI X ((j : Int) + 1) Q) (fun j _ => zdK _ _ _) (fun i hi => m.w0 i hi w) (fun i hi => ?_) (rhoE_nn _ _ _ _ _ _) (rhoE_sum h o Rho w n)
 rw [m.uo i hi]
 exact zbd h.ok rfl (h.exp_cong h.gin (m.w0 i hi w))
theorem Mixd.rowV (m : Mixd P Q G H X Y Z y n o R S T Rho A B Pp Ui Vi Uo Vo) {w : Nat} (hw : w < 3) : imI P Q (rowS8 (2 * n) n (fun i => Vo i w) (7 * n + w) y) (exF Q X Y Z n o R S T Rho) (7 * n + 3) = prodI P (fun j => expI P Q (Vi j w) (powI X ((j : Int) + 1) Q)) n := by
 have h := m.gr
 have hn := m.n1
 have hVo : ∀ i, i < n -> inI P Q (Vo i w) = true := fun i hi => by rw [m.vo i hi]; exact h.mul_in (m.vi _ (m.ord.lt i hi) w) (h.exp_in m.yin)
 refine h.rowS8 (by omega) (by omega) hVo m.yin (fun k => zdI h.q1' k) (h.prod_in n fun j hj => h.exp_in (m.vi j hj w)) ?_
 rw [pw_prod h (fun j => Vi j w) (fun j => powI X ((j : Int) + 1) Q) n (fun j hj => m.vi j hj w) (fun j _ => zdK _ _ _), exF_w hn, zdX n (fun i hi => ⟨rfl, exF_b hi⟩)]
 refine h.mixed m.yin m.ord (U := fun j => Vi j w) (c := fun j => powI X ((j : Int) + 1) Q) (fun j _ => zdK _ _ _) (fun i hi => m.w0 i hi w) (fun i hi => ?_) (rhoE_nn _ _ _ _ _ _) (rhoE_sum h o Rho w n)
 rw [m.vo i hi]
 exact zbd h.ok rfl (h.exp_cong m.yin (m.w0 i hi w))
end
end
section
open Go.RowKit
def row18 (p : Nat) (x : Int) : Nat -> Int := fun k => if k = p then x else 1
theorem row18_in {P Q G x : Int} (h : Righ P Q G) {p : Nat} (hx : inI P Q x = true) (k : Nat) : inI P Q (row18 p x k) = true := by
 unfold row18
 split
 ·exact hx
 ·exact h.one_in
section
variable (n : Nat) (A B D Pp : NI) (last : Int) (UV : NI) (G H y : Int) (Uo Vo : NN)
def tgt8 (j : Nat) : Int :=
 if j < n then A j else if j < 2 * n then B (j - n) else if j < 3 * n then D (j - 2 * n) else if j < 4 * n - 1 then Pp (j - 3 * n + 1) else if j = 4 * n - 1 then last else UV (j - 4 * n)
def bas8 (j : Nat) : Nat -> Int :=
 if j < n then row28 j G (n + j) H
 else if j < 2 * n then row28 (2 * n + (j - n)) G (3 * n + (j - n)) H
 else if j < 3 * n then row28 (4 * n + (j - 2 * n)) G (5 * n + (j - 2 * n)) H
 else if j < 4 * n - 1 then row28 (4 * n + (j - 3 * n + 1)) (Pp (j - 3 * n)) (6 * n + (j - 3 * n)) H
 else if j = 4 * n - 1 then row18 (7 * n - 1) H
 else if (j - 4 * n) % 2 = 0 then rowS8 (2 * n) n (fun i => Uo i ((j - 4 * n) / 2)) (7 * n + (j - 4 * n) / 2) G
 else rowS8 (2 * n) n (fun i => Vo i ((j - 4 * n) / 2)) (7 * n + (j - 4 * n) / 2) y
end
def uvI (P Q X : Int) (n : Nat) (Ui Vi : NN) (e : Nat) : Int :=
 if e % 2 = 0 then prodI P (fun j => expI P Q (Ui j (e / 2)) (powI X ((j : Int) + 1) Q)) n else prodI P (fun j => expI P Q (Vi j (e / 2)) (powI X ((j : Int) + 1) Q)) n
def lastI (P Q G X Y Z : Int) (n : Nat) (p : Int) : Int := overI P p (expI P Q G (prodI Q (kF Q X Y Z) n))
def tgtT (P Q G X Y Z : Int) (n : Nat) (A B Pp : NI) (Ui Vi : NN) : Nat -> Int :=
 tgt8 n A B (fun i => bigI P Q G (A i) (B i) Y Z) Pp (lastI P Q G X Y Z n (Pp (n - 1))) (uvI P Q X n Ui Vi)
theorem zdU {P Q G x z : Int} (h : Righ P Q G) {p q : Nat} (hx : inI P Q x = true) (hz : inI P Q z = true) (k : Nat) : inI P Q (row28 p x q z k) = true := by
 unfold row28
 split
 ·exact hx
 ·split
  ·exact hz
  ·exact h.one_in
theorem rowS8_in {P Q G z : Int} (h : Righ P Q G) {m n q : Nat} {W : NI} (hW : ∀ i, i < n -> inI P Q (W i) = true) (hz : inI P Q z = true) (k : Nat) : inI P Q (rowS8 m n W q z k) = true := by
 unfold rowS8
 split
 ·exact hW _ (by omega)
 ·split
  ·exact hz
  ·exact h.one_in
structure Elms (P Q G H y : Int) (n : Nat) (A B Pp : NI) (Ui Vi Uo Vo : NN) : Prop where
 gr : Righ P Q G
 hin : inI P Q H = true
 yin : inI P Q y = true
 n1 : 0 < n
 n8 : n <= 8
 a : ∀ i, i < n -> inI P Q (A i) = true
 b : ∀ i, i < n -> inI P Q (B i) = true
 p : ∀ i, i < n -> inI P Q (Pp i) = true
 ui : ∀ j, j < n -> ∀ w, w < 3 -> inI P Q (Ui j w) = true
 vi : ∀ j, j < n -> ∀ w, w < 3 -> inI P Q (Vi j w) = true
 uo : ∀ j, j < n -> ∀ w, w < 3 -> inI P Q (Uo j w) = true
 vo : ∀ j, j < n -> ∀ w, w < 3 -> inI P Q (Vo j w) = true
section
variable {P Q G H X Y Z y : Int} {n : Nat} {A B Pp : NI} {Ui Vi Uo Vo : NN}
theorem Elms.big (m : Elms P Q G H y n A B Pp Ui Vi Uo Vo) (Y Z : Int) {i : Nat} (hi : i < n) : inI P Q (bigI P Q G (A i) (B i) Y Z) = true :=
 m.gr.over_in (m.gr.mul_in (m.gr.exp_in (m.a i hi)) (m.b i hi)) (m.gr.exp_in m.gr.gin)
theorem Elms.uv (m : Elms P Q G H y n A B Pp Ui Vi Uo Vo) (X : Int) {e : Nat} (he : e < 6) : inI P Q (uvI P Q X n Ui Vi e) = true := by
 unfold uvI
 split
 ·exact m.gr.prod_in n fun j hj => m.gr.exp_in (m.ui j hj _ (by omega))
 ·exact m.gr.prod_in n fun j hj => m.gr.exp_in (m.vi j hj _ (by omega))
theorem Elms.tgt (m : Elms P Q G H y n A B Pp Ui Vi Uo Vo) (X Y Z : Int) {j : Nat} (hj : j < 4 * n + 6) : inI P Q (tgtT P Q G X Y Z n A B Pp Ui Vi j) = true := by
 have hn := m.n1
 unfold tgtT tgt8
 repeat' split
 ·exact m.a _ (by omega)
 ·exact m.b _ (by omega)
 ·exact m.big _ _ (by omega)
 ·exact m.p _ (by omega)
 ·exact m.gr.over_in (m.p _ (by omega)) (m.gr.exp_in m.gr.gin)
 ·exact m.uv X (by omega)
theorem Elms.bas (m : Elms P Q G H y n A B Pp Ui Vi Uo Vo) {j : Nat} (hj : j < 4 * n + 6) (k : Nat) : inI P Q (bas8 n Pp G H y Uo Vo j k) = true := by
 have hn := m.n1
 unfold bas8
 repeat' split
 ·exact zdU m.gr m.gr.gin m.hin k
 ·exact zdU m.gr m.gr.gin m.hin k
 ·exact zdU m.gr m.gr.gin m.hin k
 ·exact zdU m.gr (m.p _ (by omega)) m.hin k
 ·exact row18_in m.gr m.hin k
 ·exact rowS8_in m.gr (fun i hi => m.uo i hi _ (by omega)) m.gr.gin k
 ·exact rowS8_in m.gr (fun i hi => m.vo i hi _ (by omega)) m.yin k
theorem Elms.claim (m : Elms P Q G H y n A B Pp Ui Vi Uo Vo) (X Y Z : Int) : IsClaim P Q (4 * n + 6) (tgtT P Q G X Y Z n A B Pp Ui Vi) (4 * n + 6) (fun _ => 7 * n + 3) (bas8 n Pp G H y Uo Vo) (7 * n + 3) :=
 ⟨by omega, by have := m.n8; omega, rfl, by omega, by have := m.n8; omega, fun _ _ => rfl, fun j hj => m.tgt X Y Z hj, fun j hj i _ => m.bas hj i⟩
end
section
variable {P Q G H X Y Z y : Int} {n : Nat} {o : Nat -> Nat} {R S T : NI} {Rho : NN} {A B Pp : NI} {Ui Vi Uo Vo : NN}
theorem Mixd.elms (m : Mixd P Q G H X Y Z y n o R S T Rho A B Pp Ui Vi Uo Vo) (hn : n <= 8) : Elms P Q G H y n A B Pp Ui Vi Uo Vo := by
 have h := m.gr
 refine ⟨h, m.hin, m.yin, m.n1, hn, fun i hi => ?_, fun i hi => ?_, fun i hi => (m.pp i hi).1, fun j hj w _ => m.ui j hj w, fun j hj w _ => m.vi j hj w, fun i hi w _ => ?_, fun i hi w _ => ?_⟩
 ·rw [m.a i hi]; exact (h.com m.hin (by omega) (m.r0 i hi)).1
 ·rw [m.b i hi]; exact (h.com m.hin (zdK _ _ _) (m.s0 i hi)).1
 ·rw [m.uo i hi]; exact h.mul_in (m.ui _ (m.ord.lt i hi) w) (h.exp_in h.gin)
 ·rw [m.vo i hi]; exact h.mul_in (m.vi _ (m.ord.lt i hi) w) (h.exp_in m.yin)
theorem Mixd.holds (m : Mixd P Q G H X Y Z y n o R S T Rho A B Pp Ui Vi Uo Vo) {j : Nat} (hj : j < 4 * n + 6) : imI P Q (bas8 n Pp G H y Uo Vo j) (exF Q X Y Z n o R S T Rho) (7 * n + 3) = tgtT P Q G X Y Z n A B Pp Ui Vi j := by
 have hn := m.n1
 unfold bas8 tgtT tgt8
 by_cases h1 : j < n
 ·rw [if_pos h1, if_pos h1]
  exact m.rowA h1
 rw [if_neg h1, if_neg h1]
 by_cases h2 : j < 2 * n
 ·rw [if_pos h2, if_pos h2]
  exact m.rowB (by omega)
 rw [if_neg h2, if_neg h2]
 by_cases h3 : j < 3 * n
 ·rw [if_pos h3, if_pos h3]
  exact m.rowD (by omega)
 rw [if_neg h3, if_neg h3]
 by_cases h4 : j < 4 * n - 1
 ·rw [if_pos h4, if_pos h4]
  exact m.rowP (by omega)
 rw [if_neg h4, if_neg h4]
 by_cases h5 : j = 4 * n - 1
 ·rw [if_pos h5, if_pos h5]
  exact m.rowL (fun k _ hk => if_neg hk) (if_pos rfl)
 rw [if_neg h5, if_neg h5]
 unfold uvI
 by_cases h6 : (j - 4 * n) % 2 = 0
 ·rw [if_pos h6, if_pos h6]
  exact m.rowU (by omega)
 ·rw [if_neg h6, if_neg h6]
  exact m.rowV (by omega)
end
end
end Go.Proofs.YtlnmjbbpenhdbaaGreat
