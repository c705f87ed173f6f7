/-
  What the proof needs, part 15.
-/
import Derived.Test.YtlnmjbbpenhdbaaGreatKp13
import Derived.Test.YtlnmjbbpenhdbaaGreatKp14
import Derived.Test.YtlnmjbbpenhdbaaGreatKp10
import Derived.Test.YtlnmjbbpenhdbaaGreatKp12
namespace Go.Proofs.YtlnmjbbpenhdbaaGreat
open Tryz
open List renaming set_cons_zero → zs0, set_cons_succ → zs1, drop_succ_cons → zd1, drop_zero → zd0, drop_nil → zdn
open Tryz renaming underlying29 → U29, underlying55 → U55
set_option linter.unusedSimpArgs false
set_option linter.unusedVariables false
set_option maxRecDepth 100000
set_option maxHeartbeats 32000000
section
open Go Go.RowKit
theorem run_enter_fn {P : Program} {a : Act} {w : World} {f : FuncId} {fn : Func} {c : Code} {x : Operand} {caps : Array Value} {os : Array Operand} {tys : Array TypeId} {dst : Option Tmp} {ty : TypeId} {pos : String} {after : Array Edge} {guard : Option (Nat × Bool)} (hf : P.funcs[f]? = some fn) (hn : (fn.name == "runtime.NumGoroutine") = false) (hb : fn.body = some c) (hx : a.eval x = .func (.func f) #[] caps) : (execOp a.eval ⟨dst, .call ⟨.value x, os, tys⟩, ty, pos, after, guard⟩).run P w = .ok (.enter f (os.map a.eval ++ caps)) w := by
 have h1 : ¬ fn.name = "runtime.NumGoroutine" := by simpa using hn
 generalize a.eval = ev at hx ⊢
 simp [execOp, resolve, hx, callFunc, hf, h1, hb, go_sem]
theorem stCf {P : Program} {ops : List Oper} {L0 : List Value} {E : List Ent} {R : World -> Prop} {e : Ent} {f : FuncId} {fn : Func} {c : Code} {x : Operand} {os : Array Operand} {tys : Array TypeId} {dst : Option Tmp} {ty : TypeId} {pos : String} {after : Array Edge} {guard : Option (Nat × Bool)} (caps : Array Value) {args : (Nat -> Value) -> Array Value} (hR : ∀ w w', R w -> Old w w' -> R w') (hf : P.funcs[f]? = some fn)
  (h : ∀ (t : Nat -> Value) (wx : World), R wx -> (∀ k, (after.any fun e => Region.binds .any e && e.on == k) = true -> okAt E k (t k) wx) -> Calls P f (args t) wx fun r w' => ∃ v, r = .returned v /\ Old wx w' /\ e.ok v w')
  (hg : zao E ⟨dst, .call ⟨.value x, os, tys⟩, ty, pos, after, guard⟩ = some true := by rfl) (hn : (fn.name == "runtime.NumGoroutine") = false := by decide) (hb : fn.body = some c := by rfl) (hfx : ∀ t, Act.eval ⟨(fill ops E t 0 L0).toArray, []⟩ x = .func (.func f) #[] caps := by intro _; kernel_rfl) (hx : ∀ t, os.map (Act.eval ⟨(fill ops E t 0 L0).toArray, []⟩) ++ caps = args t := by intro _; kernel_rfl) : StepT P ops L0 E R ⟨dst, .call ⟨.value x, os, tys⟩, ty, pos, after, guard⟩ e :=
 stc hg hR (fun t wx => by rw [run_enter_fn hf hn hb (hfx t), hx t]) h
def one8 {α : Type} (x : α) : Nat -> α := fun _ => x
def two8f {α : Type} (x y : α) : Nat -> α | 0 => x | _ => y
theorem lists_one {w : World} {b : Nat} {ba : OA} {na ca : Nat} {A : NI} (h : w.heap[b]? = some (.cells #[.slice ba na ca] 29 (0, 0))) (h1 : na <= ca) (h2 : ca <= 9223372036854775807) (hf : FacsIn w ba na A) : ListsIn w (some ⟨b, 0, none⟩) 1 (one8 ba) (one8 na) (one8 ca) (one8 A) :=
 Or.inr ⟨b, 0, rfl, zag h, fun j hj => by
  have : j = 0 := by omega
  subst this
  exact ⟨(Y0 h).trans rfl, h1, h2, hf⟩⟩
theorem lists_two {w : World} {b : Nat} {ba bb : OA} {na ca nb cb : Nat} {A B : NI} (h : w.heap[b]? = some (.cells #[.slice ba na ca, .slice bb nb cb] 29 (0, 0))) (h1 : na <= ca) (h2 : ca <= 9223372036854775807) (h3 : nb <= cb) (h4 : cb <= 9223372036854775807) (hf : FacsIn w ba na A) (hg : FacsIn w bb nb B) : ListsIn w (some ⟨b, 0, none⟩) 2 (two8f ba bb) (two8f na nb) (two8f ca cb) (two8f A B) :=
 Or.inr ⟨b, 0, rfl, zag h, fun j hj => by
  match j, hj with
  | 0, _ => exact ⟨(Y0 h).trans rfl, h1, h2, hf⟩
  | 1, _ => exact ⟨(Y1 h).trans rfl, h3, h4, hg⟩⟩
def chX (label : List Int) (Q : Int) (K : Nat -> List Int) (n : Nat) (A : NI) : Int := zaj label (askS [120] K (one8 A) (one8 n)) (1 + 4) Q
def chYZ (c : Int) (label : List Int) (Q : Int) (K : Nat -> List Int) (n : Nat) (A B : NI) : Int := zaj label (askS [c] K (two8f A B) (two8f n n)) (2 + 4) Q
theorem zas (label : List Int) (S : Nat -> List Int) (n : Nat) (Q : Int) : U64 (zaj label S n Q) := by
 unfold zaj
 split
 ·have := numF_bd (fun i => (sumL (numL label S n)).getD i 0) Q 16
  exact ⟨this.1, Int.le_trans this.2 (by decide)⟩
 ·exact ⟨Int.le_refl _, by decide⟩
def blkE (n : Nat) (cs : Array Value) (T : TypeId) : Ent := .u (fun v w => ∃ b, v = .slice (some ⟨b, 0, none⟩) n n /\ w.heap[b]? = some (.cells cs T (0, 0))) fun _ _ _ ⟨b, e, h⟩ ho => ⟨b, e, (ho.block _ (zag h)).trans h⟩
end
section
open Go.RowKit
theorem numberI_u64 (label : List Int) (S : Nat -> List Int) (n : Nat) (q : Int) : U64 (zaj label S n q) := by
 unfold zaj
 split
 ·have := numF_bd (fun i => (sumL (numL label S n)).getD i 0) q 16
  exact ⟨this.1, by omega⟩
 ·exact ⟨by omega, by omega⟩
theorem ch_u64 (label : List Int) (P Q G H : Int) (nt : Nat) (T : NI) (nb : Nat) (L : Nat -> Nat) (B : NN) (nk : Nat) (K : NI) : U64 (chI label P Q G H nt T nb L B nk K) := numberI_u64 _ _ _ _
theorem rsame7_any (b1 : OA) (n1 c1 : Nat) (X1 : NI) (b2 : OA) (n2 c2 : Nat) (X2 : NI) (b3 : OA) (n3 c3 : Nat) (X3 : NI) (b4 : OA) (n4 c4 : Nat) (X4 : NI) (w : World) (m1 : n1 <= 9223372036854775807) (m2 : n2 <= 9223372036854775807) (h1 : FacsIn w b1 n1 X1) (h2 : FacsIn w b2 n2 X2) (h3 : FacsIn w b3 n3 X3) (h4 : FacsIn w b4 n4 X4) :
  Calls prog 93 #[cv b1 n1 c1 b2 n2 c2, cv b3 n3 c3 b4 n4 c4] w fun e w' => e = .returned (.bool (sameB n1 X1 n3 X3 && sameB n2 X2 n4 X4)) /\ Old w w' := by
 have HZ := lain2 w (cc b1 n1 c1 b2 n2 c2) (cc b3 n3 c3 b4 n4 c4) 55 55
 have HT : Hid (∀ w', Old ((w.alloc (.cells (cc b1 n1 c1 b2 n2 c2) 55)).alloc (.cells (cc b3 n3 c3 b4 n4 c4) 55)) w' -> w'.cell? ⟨w.heap.size, 0, none⟩ = some (.slice b1 n1 c1) /\ w'.cell? ⟨w.heap.size, 1, none⟩ = some (.slice b2 n2 c2) /\ w'.cell? ⟨w.heap.size + 1, 0, none⟩ = some (.slice b3 n3 c3) /\ w'.cell? ⟨w.heap.size + 1, 1, none⟩ = some (.slice b4 n4 c4)) := fun w' ho => by
  have h := HZ.then ho
  exact ⟨h.cell 0 0 (by simp) rfl, h.cell 0 1 (by simp) rfl, h.cell 1 0 (by simp) rfl, h.cell 1 1 (by simp) rfl⟩
 have HA := hid fun wx (ho : Old w wx) => zcd b1 n1 c1 X1 b3 n3 c3 X3 wx m1 (h1.old ho) (h3.old ho)
 have HB := hid fun wx (ho : Old w wx) => zcd b2 n2 c2 X2 b4 n4 c4 X4 wx m2 (h2.old ho) (h4.old ho)
 clear h1 h2 h3 h4 m1 m2
 generalize sameB n1 X1 n3 X3 = s1 at *
 generalize sameB n2 X2 n4 X4 = s2 at *
 go_enter func93, ntmps93
 go_upto_region 1 with fail
 have HW0 := hid HZ.old
 generalize hW : (w.alloc (.cells (cc b1 n1 c1 b2 n2 c2) 55)).alloc (.cells (cc b3 n3 c3 b4 n4 c4) 55) = W at *
 clear hW
 obtain ⟨p0, p1, q0, q1⟩ := HT.out _ (Old.refl _)
 cases s1 with
 | false =>
  go_wp2_with (go_at_call 19; refine (HA.out _ HW0.out).mono ?_; rintro e w1 ⟨rfl, o1⟩; obtain ⟨p0, p1, q0, q1⟩ := HT.out _ o1)
  go_ret
  exact ⟨rfl, HW0.out.trans o1⟩
 | true =>
  go_wp2_with (first
   | (go_at_call 19; have hg := o1; refine (HB.out _ (HW0.out.trans o1)).mono ?_; rintro e w2 ⟨rfl, o2⟩)
   | (go_at_call 19; refine (HA.out _ HW0.out).mono ?_; rintro e w1 ⟨rfl, o1⟩; obtain ⟨p0, p1, q0, q1⟩ := HT.out _ o1))
  go_ret
  exact ⟨rfl, (HW0.out.trans o1).trans o2⟩
theorem size_no_lens {P Q : Int} {nt : Nat} {T : NI} {nb : Nat} {L : Nat -> Nat} {B : NN} (h : lensB nt nb L = false) : sizeN P Q nt T nb L B = 0 :=
 zcb fun hc => by
  obtain ⟨h1, h2, h3, h4, h5, h6⟩ := hc
  have := zd6.2 ⟨⟨h1, h2⟩, h3, fun j hj => (zbg.1 h6 j (h3 ▸ hj)).2.1, h4, h5⟩
  rw [h] at this
  cases this
theorem size_no_tar {P Q : Int} {nt : Nat} {T : NI} {nb : Nat} {L : Nat -> Nat} {B : NN} (h : elB P Q nt T = false) : sizeN P Q nt T nb L B = 0 :=
 zcb fun hc => by
  have := zaZ.2 fun j hj => (zbg.1 hc.2.2.2.2.2 j hj).1
  rw [h] at this
  cases this
theorem size_no_row {P Q : Int} {nt : Nat} {T : NI} {nb : Nat} {L : Nat -> Nat} {B : NN} {i : Nat} (hi : i < nb) (h : elB P Q (L i) (B i) = false) : sizeN P Q nt T nb L B = 0 :=
 zcb fun hc => by
  have hr := zbg.1 hc.2.2.2.2.2 i (hc.2.2.1 ▸ hi)
  have : elB P Q (L i) (B i) = true := zaZ.2 fun j hj => hr.2.2 j (hr.2.1 ▸ hj)
  rw [h] at this
  cases this
theorem size_yes {P Q : Int} {nt : Nat} {T : NI} {nb : Nat} {L : Nat -> Nat} {B : NN} (hl : lensB nt nb L = true) (ht : elB P Q nt T = true) (hr : ∀ j, j < nb -> elB P Q (L j) (B j) = true) : sizeN P Q nt T nb L B = L 0 := by
 obtain ⟨⟨h1, h2⟩, h3, h4, h5, h6⟩ := zd6.1 hl
 unfold sizeN
 rw [if_pos ⟨h1, h2, h3, h5, h6, zbg.2 fun j hj => ⟨zaZ.1 ht j hj, h4 j (h3 ▸ hj), fun i hi => zaZ.1 (hr j (h3 ▸ hj)) i (by rw [h4 j (h3 ▸ hj)]; exact hi)⟩⟩]
theorem lsize_gen (P Q G H : Int) (a : OA) (n cap : Nat) (bt : OA) (nt ct : Nat) (T : NI) (bb : OA) (nb cb : Nat) (BA : Nat -> Option Addr) (L C : Nat -> Nat) (B : NN) (w : World) (h4 : Four P Q G H) (hcl : ClaimIn w bt nt ct T bb nb cb BA L C B) :
  Calls prog 36 #[gv P Q G H a n cap, cv bt nt ct bb nb cb] w fun e w' => e = .returned (.int .i64 (sizeN P Q nt T nb L B : Nat)) /\ Old w w' := by
 have HZ := lain2 w (gc P Q G H a n cap) (cc bt nt ct bb nb cb) 25 50
 have HT : Hid (∀ w', Old ((w.alloc (.cells (gc P Q G H a n cap) 25)).alloc (.cells (cc bt nt ct bb nb cb) 50)) w' -> G6 w' (w.heap.size) P Q G H (.slice a n cap) (w'.cell? ⟨w.heap.size + 1, 0, none⟩ = some (.slice bt nt ct) /\ w'.cell? ⟨w.heap.size + 1, 1, none⟩ = some (.slice bb nb cb))) := fun w' ho => by
  have h := HZ.then ho
  exact ⟨h.cell 0 0 (by simp) rfl, h.cell 0 1 (by simp) rfl, h.cell 0 2 (by simp) rfl, h.cell 0 3 (by simp) rfl, h.cell 0 4 (by simp) rfl, h.cell 1 0 (by simp) rfl, h.cell 1 1 (by simp) rfl⟩
 have HLn := hid fun wx (ho : Old w wx) => llens_any bt nt ct T bb nb cb BA L C B wx (hcl.old ho)
 have HTa := hid fun wx (ho : Old w wx) => lels_any P Q G H a n cap bt nt ct T wx h4 (Nat.le_trans hcl.tc hcl.tm) (hcl.tar.old ho)
 have HB := hid hcl.bas
 have HRo : Hid (∀ i wx, Old w wx -> i < nb -> Calls prog 97 #[gv P Q G H a n cap, .slice (BA i) (L i) (C i)] wx fun e w' => e = .returned (.bool (elB P Q (L i) (B i))) /\ Old wx w') := fun i wx ho hi => by
  rcases HB.out with h0 | ⟨bx, ox, hqx, _, hrx⟩
  ·omega
  exact lels_any P Q G H a n cap (BA i) (L i) (C i) (B i) wx h4 (Nat.le_trans (hrx i hi).2.1 (hrx i hi).2.2.1) ((hrx i hi).2.2.2.old ho)
 have mb : nb <= 9223372036854775807 := Nat.le_trans hcl.bc hcl.bm
 clear h4 hcl
 cases hl : lensB nt nb L with
 | false =>
  have HN : Hid (sizeN P Q nt T nb L B = 0) := size_no_lens hl
  rw [hl] at HLn
  clear hl
  go_enter func36, ntmps36
  go_upto_region 1 with fail
  have HW0 := hid HZ.old
  generalize hW : (w.alloc (.cells (gc P Q G H a n cap) 25)).alloc (.cells (cc bt nt ct bb nb cb) 50) = W at *
  clear hW
  obtain ⟨d0, d1, d2, d3, d4, z0, z1⟩ := HT.out _ (Old.refl _)
  go_wp2_with (go_at_call 96; refine (HLn.out _ HW0.out).mono ?_; rintro e w1 ⟨rfl, o1⟩)
  go_ret
  exact ⟨by rw [HN.out]; rfl, HW0.out.trans o1⟩
 | true =>
  cases ht : elB P Q nt T with
  | false =>
   have HN : Hid (sizeN P Q nt T nb L B = 0) := size_no_tar ht
   rw [hl] at HLn
   rw [ht] at HTa
   clear hl ht
   go_enter func36, ntmps36
   go_upto_region 1 with fail
   have HW0 := hid HZ.old
   generalize hW : (w.alloc (.cells (gc P Q G H a n cap) 25)).alloc (.cells (cc bt nt ct bb nb cb) 50) = W at *
   clear hW
   obtain ⟨d0, d1, d2, d3, d4, z0, z1⟩ := HT.out _ (Old.refl _)
   go_wp2_with (first
    | (go_at_call 96; refine (HLn.out _ HW0.out).mono ?_; rintro e w1 ⟨rfl, o1⟩; obtain ⟨d0, d1, d2, d3, d4, z0, z1⟩ := HT.out _ o1)
    | (go_at_call 97; refine (HTa.out _ (HW0.out.trans o1)).mono ?_; rintro e w2 ⟨rfl, o2⟩))
   go_ret
   exact ⟨by rw [HN.out]; rfl, (HW0.out.trans o1).trans o2⟩
  | true =>
   have HY : Hid ((∀ j, j < nb -> elB P Q (L j) (B j) = true) -> sizeN P Q nt T nb L B = L 0) := fun hr => size_yes hl ht hr
   have hpos : 0 < nb := by have := zd6.1 hl; omega
   have hposI : (0 : Int) < (nb : Int) := by omega
   rw [hl] at HLn
   rw [ht] at HTa
   clear hl ht
   have hB := HB.out
   rcases hB with h0 | ⟨bx, ox, hqx, _, hrx⟩
   ·omega
   have HR := hid fun w' j (ho : Old w w') (hj : j < nb) => ho.cellOf (hrx j hj).1
   clear hrx
   subst hqx
   go_enter func36, ntmps36
   go_upto_region 1 with fail
   have HW0 := hid HZ.old
   generalize hW : (w.alloc (.cells (gc P Q G H a n cap) 25)).alloc (.cells (cc bt nt ct (some ⟨bx, ox, none⟩) nb cb) 50) = W at *
   clear hW
   obtain ⟨d0, d1, d2, d3, d4, z0, z1⟩ := HT.out _ (Old.refl _)
   go_upto_region 4 with (first
    | (go_at_call 96; refine (HLn.out _ HW0.out).mono ?_; rintro e w1 ⟨rfl, o1⟩; obtain ⟨d0, d1, d2, d3, d4, z0, z1⟩ := HT.out _ o1)
    | (go_at_call 97; refine (HTa.out _ (HW0.out.trans o1)).mono ?_; rintro e w2 ⟨rfl, o2⟩; obtain ⟨d0, d1, d2, d3, d4, z0, z1⟩ := HT.out _ (o1.trans o2)))
   have HWx := hid (o1.trans o2)
   clear o1 o2
   go_loopw [20] (fun iv wx => ∃ i : Nat, iv = .int .i64 (i : Int) /\ i <= nb /\ Hid (∀ j, j < i -> elB P Q (L j) (B j) = true) /\ Hid (Old W wx)) (fun iv _ => nb - (intOf iv).toNat)
   case atStart => exact ⟨0, rfl, Nat.zero_le _, fun j hj => by omega, HWx⟩
   case round =>
    clear d0 d1 d2 d3 d4 z0 z1
    obtain ⟨i, rfl, hi1, HJ, HW⟩ := hrel
    obtain ⟨d0, d1, d2, d3, d4, z0, z1⟩ := HT.out _ HW.out
    by_cases hlt : i < nb
    ·have cx := HR.out _ i (HW0.out.trans HW.out) hlt
     have HC := hid fun wx (ho : Old W wx) => HRo.out i wx (HW0.out.trans ho) hlt
     cases hin : elB P Q (L i) (B i) with
     | true =>
      have HM := hid hin
      rw [hin] at HC
      clear hin
      go_wp2_with (go_at_call 97; refine (HC.out _ HW.out).mono ?_; rintro e w3 ⟨rfl, o3⟩)
      go_roundw
      case rel => exact ⟨i + 1, zab i, by omega, zav HJ.out HM.out, HW.out.trans o3⟩
      case measure => simp [intOf]; omega
     | false =>
      have HN : Hid (sizeN P Q nt T nb L B = 0) := size_no_row hlt hin
      rw [hin] at HC
      clear hin
      go_wp2_with (go_at_call 97; refine (HC.out _ HW.out).mono ?_; rintro e w3 ⟨rfl, o3⟩)
      go_ret
      exact ⟨by rw [HN.out]; rfl, (HW0.out.trans HW.out).trans o3⟩
    ·have he : nb = i := by omega
     subst he
     have HN := hid (HY.out HJ.out)
     have c0 := HR.out _ 0 (HW0.out.trans HW.out) hpos
     rw [Nat.add_zero] at c0
     go_wp2_with fail
     go_ret
     exact ⟨by rw [HN.out]; rfl, HW0.out.trans HW.out⟩
theorem lpow_any (P Q G H : Int) (a : OA) (n cap : Nat) (b1 : OA) (n1 c1 : Nat) (B1 : NI) (b2 : OA) (n2 c2 : Nat) (X : NI) (w : World) (h4 : Four P Q G H) (hr : Righ P Q G) (m1 : n1 <= 80) (hn : n1 = n2) (h1 : FacsIn w b1 n1 B1) (h2 : FacsIn w b2 n2 X) :
  Calls prog 100 #[gv P Q G H a n cap, .slice b1 n1 c1, .slice b2 n2 c2] w fun e w' => e = .returned (.int .u64 (imI P Q B1 X n1)) /\ Old w w' := by
 subst hn
 have HX : Hid (FacsIn w b1 n1 B1) := h1
 have HY : Hid (FacsIn w b2 n1 X) := h2
 have HZ := lain1 w (gc P Q G H a n cap) 25
 obtain ⟨F, hF⟩ : ∃ F : Nat -> Int, F = fun k => expI P Q (B1 k) (X k) := ⟨_, rfl⟩
 have H1 : Hid (∀ i wx, i < n1 -> Calls prog 65 #[gv P Q G H a n cap, .int .u64 (B1 i), .int .u64 (X i)] wx fun r w' => r = .returned (.int .u64 (F i)) /\ Old wx w') := fun i wx hi => (za8 P Q G H (B1 i) (X i) a n cap wx h4 hr (h1.u64 i hi).1 (h1.u64 i hi).2 (h2.u64 i hi).1 (h2.u64 i hi).2).mono fun r w' ⟨h, k⟩ => ⟨by rw [h, hF], k⟩
 have H2 : Hid (∀ b wx, FacsIn wx b n1 F -> Calls prog 64 #[gv P Q G H a n cap, .slice b n1 n1] wx fun r w' => r = .returned (.int .u64 (imI P Q B1 X n1)) /\ Old wx w') := fun b wx hf => (zcl P Q G H a n cap b n1 n1 F wx h4 hr (Nat.le_refl _) (by omega) hf).mono fun r w' ⟨h, k⟩ => ⟨by rw [h, hF]; rfl, k⟩
 have HU : Hid (∀ k, U64 (F k)) := fun k => by rw [hF]; exact zaz _ _ _ _
 generalize imI P Q B1 X n1 = im at *
 clear hF h1 h2 h4 hr
 have hmk := zaP n1 m1
 go_enter func100, ntmps100
 go_upto_region 1 with fail
 generalize hW : w.alloc (.cells (gc P Q G H a n cap) 25) = W at *
 clear hW
 go_upto_region 2 with fail
 have HFu := zaC W n1 F
 have HWx : Hid (Old W (W.alloc (.cells (madeCells #[Value.int .u64 0] n1) 22))) := (Old.refl W).alloc _
 have hlt0 : W.heap.size < (W.alloc (.cells (madeCells #[Value.int .u64 0] n1) 22)).heap.size := HFu.lt
 generalize W.alloc (.cells (madeCells #[Value.int .u64 0] n1) 22) = W1 at *
 go_upto_region 3 with fail
 go_loopw [15] (fun iv wx => ∃ i : Nat, iv = .int .i64 (i : Int) /\ i <= n1 /\ Hid (Full wx W.heap.size n1 (upTo i F)) /\ Hid (Old W wx)) (fun iv _ => n1 - (intOf iv).toNat)
 case atStart => exact ⟨0, rfl, Nat.zero_le _, HFu, HWx⟩
 case round =>
  obtain ⟨i, rfl, hi1, HN, HW⟩ := hrel
  by_cases hlt : i < n1
  ·rcases HX.out with h0 | ⟨bx, ox, hqx, _, hrx⟩
   ·omega
   rcases HY.out with h0 | ⟨by_, oy, hqy, _, hry⟩
   ·omega
   have HT : Hid (∀ w', Old W w' -> G6 w' (w.heap.size) P Q G H (.slice a n cap) (w'.cell? ⟨by_, oy + i, none⟩ = some (.int .u64 (X i)))) := fun w' ho => ⟨(HZ.then ho).cell 0 0 (by simp) rfl, (HZ.then ho).cell 0 1 (by simp) rfl, (HZ.then ho).cell 0 2 (by simp) rfl, (HZ.then ho).cell 0 3 (by simp) rfl, (HZ.then ho).cell 0 4 (by simp) rfl, (HZ.old.trans ho).cellOf (hry i hlt).1⟩
   have cx := (HZ.old.trans HW.out).cellOf (hrx i hlt).1
   clear hrx hry
   subst hqx hqy
   obtain ⟨d0, d1, d2, d3, d4, cy⟩ := HT.out _ HW.out
   have HM : Hid (∀ wx, Calls prog 65 #[gv P Q G H a n cap, .int .u64 (B1 i), .int .u64 (X i)] wx fun r w' => r = .returned (.int .u64 (F i)) /\ Old wx w') := fun wx => H1.out i wx hlt
   go_upto_region 5 with fail
   go_region_held3 (fun w' => w'.cell? ⟨w.heap.size, 0, none⟩ = some (.int .u64 P) /\ w'.cell? ⟨w.heap.size, 1, none⟩ = some (.int .u64 Q) /\ w'.cell? ⟨w.heap.size, 2, none⟩ = some (.int .u64 G) /\ w'.cell? ⟨w.heap.size, 3, none⟩ = some (.int .u64 H) /\ w'.cell? ⟨w.heap.size, 4, none⟩ = some (.slice a n cap) /\ w'.cell? ⟨by_, oy + i, none⟩ = some (.int .u64 (X i))) (first | exact HT.out _ (h4.setCell (Nat.le_refl _) _) | exact HT.out _ h4 | exact HT.out _ HW.out.drew) (first
    | (go_at_call 65; refine (HM.out _).mono ?_; rintro e w4 ⟨rfl, o4⟩; have h4 : Old W w4 := HW.out.drew.trans o4; have hful := HN.out.old ((Old.refl wr).drew.trans o4); have q0 := hful.cell i hlt; have f0 := hful.free i))
   have HG : Hid (Full (w4.setCell ⟨W.heap.size, i, none⟩ (.int .u64 (F i))) W.heap.size n1 (upTo (i + 1) F)) := hful.next
   have HG2 : Hid (Old W (w4.setCell ⟨W.heap.size, i, none⟩ (.int .u64 (F i)))) := h4.setCell (Nat.le_refl _) _
   go_wp2_with fail
   go_roundw
   case rel => exact ⟨i + 1, zab i, by omega, HG, HG2⟩
   case measure => simp [intOf]; omega
  ·have he : n1 = i := by omega
   subst he
   have d0 := (HZ.then HW.out).cell 0 0 (by simp) rfl
   have d1 := (HZ.then HW.out).cell 0 1 (by simp) rfl
   have d2 := (HZ.then HW.out).cell 0 2 (by simp) rfl
   have d3 := (HZ.then HW.out).cell 0 3 (by simp) rfl
   have d4 := (HZ.then HW.out).cell 0 4 (by simp) rfl
   simp only [Nat.add_zero] at d0 d1 d2 d3 d4
   have HP : Hid (Calls prog 64 #[gv P Q G H a n cap, .slice (some ⟨W.heap.size, 0, none⟩) n1 n1] wr fun r w' => r = .returned (.int .u64 im) /\ Old wr w') := H2.out _ _ (HN.out.done.facs fun k _ => HU.out k)
   go_wp2_with (go_at_call 64; refine HP.out.mono ?_; rintro e w5 ⟨rfl, o5⟩)
   go_ret
   exact ⟨rfl, (HZ.old.trans HW.out).trans o5⟩
def GivesF (w : World) (ok : Bool) (k : Nat) (F : NI) (r : Ending) (w' : World) : Prop :=
 Old w w' /\ ((ok = false /\ r = .returned (.tuple #[.slice none 0 0, .bool false])) ∨ (ok = true /\ ∃ b, w.heap.size <= b /\ r = .returned (.tuple #[.slice (some ⟨b, 0, none⟩) k k, .bool true]) /\ Full w' b k F))
theorem GivesF.gives {w w' : World} {ok : Bool} {k : Nat} {F : NI} {r : Ending} (h : GivesF w ok k F r w') (hk : k <= 9223372036854775807) : Gives w ok k F r w' := by
 obtain ⟨ho, ⟨h1, rfl⟩ | ⟨h1, b, hb, rfl, hF⟩⟩ := h
 ·exact zdh h1 ho
 ·exact zdg h1 (hF.nums hb hk) ho
set_option linter.unusedSimpArgs false in
theorem ze2 (P Q G H : Int) (a : OA) (n cap : Nat) (bt : OA) (nt ct : Nat) (T : NI) (bb : OA) (nb cb : Nat) (BA : Nat -> Option Addr) (L C : Nat -> Nat) (B : NN) (bz : OA) (nz cz : Nat) (X : NI) (w : World) (h4 : Four P Q G H) (hr : Righ P Q G) (hC : ClaimIn w bt nt ct T bb nb cb BA L C B) (hX : FacsIn w bz nz X) :
  Calls prog 42 #[gv P Q G H a n cap, cv bt nt ct bb nb cb, .slice bz nz cz] w (GivesF w (fitsB (sizeN P Q nt T nb L B) nz) nt (fun j => imI P Q (B j) X (sizeN P Q nt T nb L B))) := by
 have HZ := lain2 w (gc P Q G H a n cap) (cc bt nt ct bb nb cb) 25 50
 have HT : Hid (∀ w', Old ((w.alloc (.cells (gc P Q G H a n cap) 25)).alloc (.cells (cc bt nt ct bb nb cb) 50)) w' -> G6 w' (w.heap.size) P Q G H (.slice a n cap) (w'.cell? ⟨w.heap.size + 1, 0, none⟩ = some (.slice bt nt ct) /\ w'.cell? ⟨w.heap.size + 1, 1, none⟩ = some (.slice bb nb cb))) := fun w' ho => by
  have h := HZ.then ho
  exact ⟨h.cell 0 0 (by simp) rfl, h.cell 0 1 (by simp) rfl, h.cell 0 2 (by simp) rfl, h.cell 0 3 (by simp) rfl, h.cell 0 4 (by simp) rfl, h.cell 1 0 (by simp) rfl, h.cell 1 1 (by simp) rfl⟩
 have HS := hid fun wx (ho : Old w wx) => lsize_gen P Q G H a n cap bt nt ct T bb nb cb BA L C B wx h4 (hC.old ho)
 have hcl := zcY (P := P) (Q := Q) (nt := nt) (T := T) (nb := nb) (L := L) (B := B)
 have HB := hid hC.bas
 generalize sizeN P Q nt T nb L B = sz at *
 obtain ⟨F, hF⟩ : ∃ F : Nat -> Int, F = fun j => imI P Q (B j) X sz := ⟨_, rfl⟩
 rw [<- hF]
 have HPw : Hid (∀ i wx, Old w wx -> i < nb -> L i = nz -> nz = sz -> nz <= 80 -> Calls prog 100 #[gv P Q G H a n cap, .slice (BA i) (L i) (C i), .slice bz nz cz] wx fun r w' => r = .returned (.int .u64 (F i)) /\ Old wx w') := fun i wx ho hi hL hz hm =>
  (lpow_any P Q G H a n cap (BA i) (L i) (C i) (B i) bz nz cz X wx h4 hr (by omega) hL ((HB.out.facs hi).old ho) (hX.old ho)).mono fun r w' ⟨h, k⟩ => ⟨by rw [h, hF, hL, hz], k⟩
 clear hF h4 hr hC hX
 by_cases hs0 : sz = 0
 ·have HN : Hid (fitsB sz nz = false) := no_of fun h => (za2.1 h).1 hs0
  have k1 : (sz : Int) = 0 := by omega
  clear hcl hs0
  go_enter func42, ntmps42
  go_upto_region 1 with fail
  have HW0 := hid HZ.old
  generalize hW : (w.alloc (.cells (gc P Q G H a n cap) 25)).alloc (.cells (cc bt nt ct bb nb cb) 50) = W at *
  clear hW
  obtain ⟨d0, d1, d2, d3, d4, z0, z1⟩ := HT.out _ (Old.refl _)
  go_wp2_with (go_at_call 36; refine (HS.out _ HW0.out).mono ?_; rintro e w2 ⟨rfl, h2⟩)
  go_ret2
  exact ⟨HW0.out.trans h2, Or.inl ⟨HN.out, rfl⟩⟩
 by_cases hnw : nz = sz
 ·have hcl := hcl hs0
  subst hnw
  have HN := hid (za2.2 ⟨hs0, rfl⟩)
  have HP := hid fun i wx (ho : Old w wx) (hi : i < nb) => HPw.out i wx ho hi (hcl.len i (hcl.nb ▸ hi)) rfl (by have := hcl.n64; omega)
  have HNB := hid hcl.nb
  have m1 : nb <= 80 := by have := hcl.nb; have := hcl.t64; omega
  have hpos : 0 < nb := by have := hcl.nb; have := hcl.t1; omega
  have k1 : ¬ (nz : Int) = 0 := by omega
  have k3 : ((nz : Int) == 0) = false := by simp; omega
  clear hcl HPw hs0
  rcases HB.out with h0 | ⟨bx, ox, hqx, _, hrx⟩
  ·omega
  have HR := hid fun w' j (ho : Old w w') (hj : j < nb) => ho.cellOf (hrx j hj).1
  clear hrx
  subst hqx
  have hmk := zaP nb m1
  go_enter func42, ntmps42
  go_upto_region 1 with fail
  have HW0 := hid HZ.old
  generalize hW : (w.alloc (.cells (gc P Q G H a n cap) 25)).alloc (.cells (cc bt nt ct (some ⟨bx, ox, none⟩) nb cb) 50) = W at *
  clear hW
  obtain ⟨d0, d1, d2, d3, d4, z0, z1⟩ := HT.out _ (Old.refl _)
  go_upto_region 4 with (go_at_call 36; refine (HS.out _ HW0.out).mono ?_; rintro e w2 ⟨rfl, h2⟩; obtain ⟨d0, d1, d2, d3, d4, z0, z1⟩ := HT.out _ h2)
  go_upto_region 5 with fail
  have HFu := zaC w2 nb F
  have HWx : Hid (Old W (w2.alloc (.cells (madeCells #[Value.int .u64 0] nb) 22))) := h2.alloc _
  have hlt0 : w2.heap.size < (w2.alloc (.cells (madeCells #[Value.int .u64 0] nb) 22)).heap.size := HFu.lt
  generalize w2.alloc (.cells (madeCells #[Value.int .u64 0] nb) 22) = W1 at *
  clear d0 d1 d2 d3 d4 z0 z1
  obtain ⟨d0, d1, d2, d3, d4, z0, z1⟩ := HT.out _ HWx.out
  have hsz := h2.size
  go_upto_region 6 with fail
  clear d0 d1 d2 d3 d4 z0 z1
  go_loopw [30] (fun iv wx => ∃ i : Nat, iv = .int .i64 (i : Int) /\ i <= nb /\ Hid (Full wx w2.heap.size nb (upTo i F)) /\ Hid (Old W wx)) (fun iv _ => nb - (intOf iv).toNat)
  case atStart => exact ⟨0, rfl, Nat.zero_le _, HFu, HWx⟩
  case round =>
   obtain ⟨i, rfl, hi1, HNu, HW⟩ := hrel
   by_cases hlt : i < nb
   ·obtain ⟨d0, d1, d2, d3, d4, z0, z1⟩ := HT.out _ HW.out
    have cx := HR.out _ i (HW0.out.trans HW.out) hlt
    have HC := hid (HP.out i wr (HW0.out.trans HW.out) hlt)
    go_wp2_with (go_at_call 100; refine HC.out.mono ?_; rintro e w4 ⟨rfl, o4⟩; have h4 : Old W w4 := HW.out.trans o4; have hful := HNu.out.old o4; have q0 := hful.cell i hlt; have f0 := hful.free i)
    have HG := hid hful.next
    have HG2 : Hid (Old W (w4.setCell ⟨w2.heap.size, i, none⟩ (.int .u64 (F i)))) := h4.setCell hsz _
    go_roundw
    case rel => exact ⟨i + 1, zab i, by omega, HG, HG2⟩
    case measure => simp [intOf]; omega
   ·have he : nb = i := by omega
    subst he
    have HD := hid HNu.out.done
    go_wp2_with fail
    go_ret2
    have hnb := HNB.out
    refine ⟨HW0.out.trans HW.out, Or.inr ⟨HN.out, w2.heap.size, Nat.le_trans HW0.out.size hsz, ?_, ?_⟩⟩
    ·rw [<- hnb]; rfl
    ·rw [<- hnb]; exact HD.out
 ·have HN : Hid (fitsB sz nz = false) := no_of fun h => hnw (za2.1 h).2
  have k1 : ¬ (sz : Int) = 0 := by omega
  have k2 : ¬ (nz : Int) = (sz : Int) := by omega
  have k3 : ((sz : Int) == 0) = false := by simp; omega
  have k4 : ((nz : Int) != (sz : Int)) = true := by simp; omega
  have k5 : ((nz : Int) == (sz : Int)) = false := by simp; omega
  clear hcl hs0
  go_enter func42, ntmps42
  go_upto_region 1 with fail
  have HW0 := hid HZ.old
  generalize hW : (w.alloc (.cells (gc P Q G H a n cap) 25)).alloc (.cells (cc bt nt ct bb nb cb) 50) = W at *
  clear hW
  obtain ⟨d0, d1, d2, d3, d4, z0, z1⟩ := HT.out _ (Old.refl _)
  go_wp2_with (go_at_call 36; refine (HS.out _ HW0.out).mono ?_; rintro e w2 ⟨rfl, h2⟩)
  go_ret2
  exact ⟨HW0.out.trans h2, Or.inl ⟨HN.out, rfl⟩⟩
def fromTo (i : Nat) (F O : NI) : Nat -> Int := fun k => if k < i then O k else F k
set_option linter.unusedSimpArgs false in
theorem laccepts_gen (P Q G H : Int) (a : OA) (n cap : Nat) (bt : OA) (nt ct : Nat) (T : NI) (bb : OA) (nb cb : Nat) (BA : Nat -> Option Addr) (L C : Nat -> Nat) (B : NN) (bk : OA) (nk ck : Nat) (K : NI) (ch : Int) (bz : OA) (nz cz : Nat) (X : NI) (w : World) (h4 : Four P Q G H) (hr : Righ P Q G) (he : U64 ch) (mk : nk <= 9223372036854775807) (hC : ClaimIn w bt nt ct T bb nb cb BA L C B) (hK : FacsIn w bk nk K) (hX : FacsIn w bz nz X) :
  Calls prog 45 #[gv P Q G H a n cap, cv bt nt ct bb nb cb, .slice bk nk ck, .int .u64 ch, .slice bz nz cz] w fun e w' => e = .returned (.bool (accB P Q nt T nb L B nk K ch nz X)) /\ Old w w' := by
 have HZ := lain2 w (gc P Q G H a n cap) (cc bt nt ct bb nb cb) 25 50
 have HT : Hid (∀ w', Old ((w.alloc (.cells (gc P Q G H a n cap) 25)).alloc (.cells (cc bt nt ct bb nb cb) 50)) w' -> G6 w' (w.heap.size) P Q G H (.slice a n cap) (w'.cell? ⟨w.heap.size + 1, 0, none⟩ = some (.slice bt nt ct) /\ w'.cell? ⟨w.heap.size + 1, 1, none⟩ = some (.slice bb nb cb))) := fun w' ho => by
  have h := HZ.then ho
  exact ⟨h.cell 0 0 (by simp) rfl, h.cell 0 1 (by simp) rfl, h.cell 0 2 (by simp) rfl, h.cell 0 3 (by simp) rfl, h.cell 0 4 (by simp) rfl, h.cell 1 0 (by simp) rfl, h.cell 1 1 (by simp) rfl⟩
 have HC := hid hC.tar
 have HKK := hid hK
 have HIm := hid fun wx (ho : Old w wx) => ze2 P Q G H a n cap bt nt ct T bb nb cb BA L C B bz nz cz X wx h4 hr (hC.old ho) (hX.old ho)
 have mt : nt <= 9223372036854775807 := Nat.le_trans hC.tc hC.tm
 obtain ⟨F, hF⟩ : ∃ F : Nat -> Int, F = fun j => imI P Q (B j) X (sizeN P Q nt T nb L B) := ⟨_, rfl⟩
 obtain ⟨E, hE⟩ : ∃ E : Nat -> Int, E = fun j => expI P Q (T j) ch := ⟨_, rfl⟩
 obtain ⟨M, hM⟩ : ∃ M : Nat -> Int, M = fun j => mulI (K j) (E j) P := ⟨_, rfl⟩
 have HYES : Hid (fitsB (sizeN P Q nt T nb L B) nz = true -> nk = nt -> elB P Q nk K = true -> (∀ j, j < nt -> F j = M j) -> accB P Q nt T nb L B nk K ch nz X = true) := fun h1 h2 h3 h5 => zdW.2 ⟨h1, h2, fun j hj => ⟨zaZ.1 h3 j (h2 ▸ hj), by have := h5 j hj; rw [hF, hM, hE] at this; exact this⟩⟩
 have HNO : Hid ((fitsB (sizeN P Q nt T nb L B) nz = true -> nk = nt -> elB P Q nk K = true -> (∀ j, j < nt -> F j = M j) -> False) -> accB P Q nt T nb L B nk K ch nz X = false) := fun h => no_of fun hc => by
  obtain ⟨h1, h2, h3⟩ := zdW.1 hc
  exact h h1 h2 (zaZ.2 fun j hj => (h3 j (h2 ▸ hj)).1) fun j hj => by rw [hF, hM, hE]; exact (h3 j hj).2
 rw [<- hF] at HIm
 have HNT : Hid (fitsB (sizeN P Q nt T nb L B) nz = true -> 0 < nt) := fun h => (zcY (za2.1 h).1).t1
 have HEl : Hid (∀ wx, Old w wx -> Calls prog 97 #[gv P Q G H a n cap, .slice bk nk ck] wx fun e w' => e = .returned (.bool (elB P Q nk K)) /\ Old wx w') := fun wx ho => lels_any P Q G H a n cap bk nk ck K wx h4 mk (hK.old ho)
 have HEx : Hid (∀ j wx, j < nt -> Calls prog 65 #[gv P Q G H a n cap, .int .u64 (T j), .int .u64 ch] wx fun e w' => e = .returned (.int .u64 (E j)) /\ Old wx w') := fun j wx hj => (za8 P Q G H (T j) ch a n cap wx h4 hr (hC.tar.u64 j hj).1 (hC.tar.u64 j hj).2 he.1 he.2).mono fun e w' ⟨h, k⟩ => ⟨by rw [h, hE], k⟩
 have HPr : Hid (∀ (j : Nat) (wx : World) (t : TypeId), j < nk -> Calls prog 64 #[gv P Q G H a n cap, .slice (some ⟨wx.heap.size, 0, none⟩) 2 2] (wx.alloc (.cells #[.int .u64 (K j), .int .u64 (E j)] t)) fun r w' => r = .returned (.int .u64 (M j)) /\ Old (wx.alloc (.cells #[.int .u64 (K j), .int .u64 (E j)] t)) w') :=
  fun j wx t hj => by
   have hu : U64 (E j) := by rw [hE]; exact zaz _ _ _ _
   have hf := zdT wx (K j) (E j) t (hK.u64 j hj) hu
   have hm : mulI (K j) (E j) P = M j := by rw [hM]
   have hp := prod5 hr (K j) (E j)
   generalize two5 (K j) (E j) = F2 at *
   have hg := zcl P Q G H a n cap (some ⟨wx.heap.size, 0, none⟩) 2 2 F2 _ h4 hr (by decide) (by decide) hf
   rw [hp, hm] at hg
   exact hg
 clear hM hE hF h4 hr he hC hK hX
 generalize accB P Q nt T nb L B nk K ch nz X = R at *
 generalize fitsB (sizeN P Q nt T nb L B) nz = ok at *
 cases ok with
 | false =>
  have HN : Hid (R = false) := HNO.out fun h _ _ _ => by cases h
  go_enter func45, ntmps45
  go_upto_region 1 with fail
  have HW0 := hid HZ.old
  generalize hW : (w.alloc (.cells (gc P Q G H a n cap) 25)).alloc (.cells (cc bt nt ct bb nb cb) 50) = W at *
  clear hW
  obtain ⟨d0, d1, d2, d3, d4, t0, t1⟩ := HT.out _ (Old.refl _)
  go_upto_region 2 with (go_at_call 42; refine (HIm.out _ HW0.out).mono ?_; rintro e w2 ⟨h2, ⟨_, rfl⟩ | ⟨hno, _⟩⟩; rotate_left; exact absurd hno (by decide))
  clear d0 d1 d2 d3 d4 t0 t1
  go_wp2_with fail
  go_ret
  exact ⟨zad HN.out.symm, HW0.out.trans h2⟩
 | true =>
  have hpos := HNT.out (by trivial)
  by_cases hnk : nk = nt
  ·cases hel : elB P Q nk K with
   | false =>
    have HN : Hid (R = false) := HNO.out fun _ _ h _ => by rw [hel] at h; cases h
    rw [hel] at HEl
    have k1 : (nk : Int) = (nt : Int) := by omega
    have k4 : ((nk : Int) != (nt : Int)) = false := by simp; omega
    clear hel HYES HNO hnk
    go_enter func45, ntmps45
    go_upto_region 1 with fail
    have HW0 := hid HZ.old
    generalize hW : (w.alloc (.cells (gc P Q G H a n cap) 25)).alloc (.cells (cc bt nt ct bb nb cb) 50) = W at *
    clear hW
    obtain ⟨d0, d1, d2, d3, d4, t0, t1⟩ := HT.out _ (Old.refl _)
    go_upto_region 2 with (go_at_call 42; refine (HIm.out _ HW0.out).mono ?_; rintro e w2 ⟨h2, ⟨hno, _⟩ | ⟨_, bf, hbf, rfl, hff⟩⟩; exact absurd hno (by decide))
    clear d0 d1 d2 d3 d4 t0 t1
    obtain ⟨d0, d1, d2, d3, d4, t0, t1⟩ := HT.out _ h2
    go_wp2_with (go_at_call 97; refine (HEl.out _ (HW0.out.trans h2)).mono ?_; rintro e w3 ⟨rfl, h3⟩)
    go_ret
    exact ⟨zad HN.out.symm, (HW0.out.trans h2).trans h3⟩
   | true =>
    have HYE : Hid ((∀ j, j < nt -> F j = M j) -> R = true) := fun h => HYES.out (by trivial) hnk hel h
    have HNE := hid fun j (hj : j < nt) (hne : ¬ F j = M j) => HNO.out fun _ _ _ h => hne (h j hj)
    rw [hel] at HEl
    clear hel HYES HNO
    subst hnk
    rcases HC.out with h0 | ⟨tb, tof, hqt, _, hrt⟩
    ·omega
    rcases HKK.out with h0 | ⟨kb, ko, hqk, _, hrk⟩
    ·omega
    subst hqt hqk
    have HRT : Hid (∀ j, j < nk -> ∀ w', Old w w' -> w'.cell? ⟨tb, tof + j, none⟩ = some (.int .u64 (T j))) := fun j hj w' ho => ho.cellOf (hrt j hj).1
    have HRK : Hid (∀ j, j < nk -> ∀ w', Old w w' -> w'.cell? ⟨kb, ko + j, none⟩ = some (.int .u64 (K j))) := fun j hj w' ho => ho.cellOf (hrk j hj).1
    clear hrt hrk
    go_enter func45, ntmps45
    go_upto_region 1 with fail
    have HW0 := hid HZ.old
    generalize hW : (w.alloc (.cells (gc P Q G H a n cap) 25)).alloc (.cells (cc (some ⟨tb, tof, none⟩) nk ct bb nb cb) 50) = W at *
    clear hW
    obtain ⟨d0, d1, d2, d3, d4, t0, t1⟩ := HT.out _ (Old.refl _)
    go_upto_region 2 with (go_at_call 42; refine (HIm.out _ HW0.out).mono ?_; rintro e w2 ⟨h2, ⟨hno, _⟩ | ⟨_, bf, hbf, rfl, hff⟩⟩; exact absurd hno (by decide))
    clear d0 d1 d2 d3 d4 t0 t1
    obtain ⟨d0, d1, d2, d3, d4, t0, t1⟩ := HT.out _ h2
    go_upto_region 4 with (go_at_call 97; refine (HEl.out _ (HW0.out.trans h2)).mono ?_; rintro e w3 ⟨rfl, h3⟩)
    have HRF : Hid (∀ j, j < nk -> ∀ w', Old w2 w' -> w'.cell? ⟨bf, j, none⟩ = some (.int .u64 (F j))) := fun j hj w' ho => ho.cellOf (hff.cell j hj)
    have HW2 := hid h2
    have HW3 := hid h3
    clear d0 d1 d2 d3 d4 t0 t1 hff h2 h3
    obtain ⟨d0, d1, d2, d3, d4, t0, t1⟩ := HT.out _ (HW2.out.trans HW3.out)
    go_upto_region 5 with fail
    clear d0 d1 d2 d3 d4 t0 t1
    go_loopw [40] (fun iv wx => ∃ i : Nat, iv = .int .i64 (i : Int) /\ i <= nk /\ Hid (∀ j, j < i -> F j = M j) /\ Hid (Old w2 wx)) (fun iv _ => nk - (intOf iv).toNat)
    case atStart => exact ⟨0, rfl, Nat.zero_le _, fun j hj => by omega, HW3⟩
    case round =>
     obtain ⟨i, rfl, hi1, HJ, HW⟩ := hrel
     by_cases hlt : i < nk
     ·have HT2 : Hid (∀ w', Old w2 w' -> G6 w' (w.heap.size) P Q G H (.slice a n cap) (w'.cell? ⟨bf, i, none⟩ = some (.int .u64 (F i)) /\ w'.cell? ⟨kb, ko + i, none⟩ = some (.int .u64 (K i)))) := fun w' ho => by
       obtain ⟨d0, d1, d2, d3, d4, t0, t1⟩ := HT.out _ (HW2.out.trans ho)
       exact ⟨d0, d1, d2, d3, d4, HRF.out i hlt _ ho, HRK.out i hlt _ ((HW0.out.trans HW2.out).trans ho)⟩
      obtain ⟨d0, d1, d2, d3, d4, cf1, ck1⟩ := HT2.out _ HW.out
      have cx := HRT.out i hlt _ ((HW0.out.trans HW2.out).trans HW.out)
      have HM : Hid (∀ wx, Calls prog 65 #[gv P Q G H a n cap, .int .u64 (T i), .int .u64 ch] wx fun r w' => r = .returned (.int .u64 (E i)) /\ Old wx w') := fun wx => HEx.out i wx hlt
      have HV : Hid (∀ (wx : World) (t : TypeId), Calls prog 64 #[gv P Q G H a n cap, .slice (some ⟨wx.heap.size, 0, none⟩) 2 2] (wx.alloc (.cells #[.int .u64 (K i), .int .u64 (E i)] t)) fun r w' => r = .returned (.int .u64 (M i)) /\ Old (wx.alloc (.cells #[.int .u64 (K i), .int .u64 (E i)] t)) w') := fun wx t => HPr.out i wx t hlt
      by_cases heq : F i = M i
      ·have HQ : Hid (F i = M i) := heq
       rw [<- heq] at HV
       clear heq
       go_upto_region 7 with fail
       go_region_held3 (fun w' => w'.cell? ⟨w.heap.size, 0, none⟩ = some (.int .u64 P) /\ w'.cell? ⟨w.heap.size, 1, none⟩ = some (.int .u64 Q) /\ w'.cell? ⟨w.heap.size, 2, none⟩ = some (.int .u64 G) /\ w'.cell? ⟨w.heap.size, 3, none⟩ = some (.int .u64 H) /\ w'.cell? ⟨w.heap.size, 4, none⟩ = some (.slice a n cap) /\ w'.cell? ⟨bf, i, none⟩ = some (.int .u64 (F i)) /\ w'.cell? ⟨kb, ko + i, none⟩ = some (.int .u64 (K i))) (first | exact HT2.out _ h5 | exact HT2.out _ (h4.alloc _) | exact HT2.out _ h4 | exact HT2.out _ HW.out.drew) (first
        | (go_at_call 65; refine (HM.out _).mono ?_; rintro e w4 ⟨rfl, o4⟩; have h4 : Old w2 w4 := HW.out.drew.trans o4)
        | (go_at_call 64; refine (HV.out _ _).mono ?_; rintro e w5 ⟨rfl, o5⟩; have h5 : Old w2 w5 := (h4.alloc _).trans o5))
       go_wp2_with fail
       go_roundw
       case rel => exact ⟨i + 1, zab i, by omega, zav HJ.out HQ.out, h5⟩
       case measure => simp [intOf]; omega
      ·have HN : Hid (R = false) := HNE.out i hlt heq
       go_upto_region 7 with fail
       go_region_held3 (fun w' => w'.cell? ⟨w.heap.size, 0, none⟩ = some (.int .u64 P) /\ w'.cell? ⟨w.heap.size, 1, none⟩ = some (.int .u64 Q) /\ w'.cell? ⟨w.heap.size, 2, none⟩ = some (.int .u64 G) /\ w'.cell? ⟨w.heap.size, 3, none⟩ = some (.int .u64 H) /\ w'.cell? ⟨w.heap.size, 4, none⟩ = some (.slice a n cap) /\ w'.cell? ⟨bf, i, none⟩ = some (.int .u64 (F i)) /\ w'.cell? ⟨kb, ko + i, none⟩ = some (.int .u64 (K i))) (first | exact HT2.out _ h5 | exact HT2.out _ (h4.alloc _) | exact HT2.out _ h4 | exact HT2.out _ HW.out.drew) (first
        | (go_at_call 65; refine (HM.out _).mono ?_; rintro e w4 ⟨rfl, o4⟩; have h4 : Old w2 w4 := HW.out.drew.trans o4)
        | (go_at_call 64; refine (HV.out _ _).mono ?_; rintro e w5 ⟨rfl, o5⟩; have h5 : Old w2 w5 := (h4.alloc _).trans o5))
       go_wp2_with fail
       go_ret
       exact ⟨zad HN.out.symm, (HW0.out.trans HW2.out).trans h5⟩
     ·have hei : nk = i := by omega
      subst hei
      have HN := hid (HYE.out HJ.out)
      go_wp2_with fail
      go_ret
      exact ⟨zad HN.out.symm, (HW0.out.trans HW2.out).trans HW.out⟩
  ·have HN : Hid (R = false) := HNO.out fun _ h _ _ => hnk h
   have k1 : ¬ (nk : Int) = (nt : Int) := by omega
   have k4 : ((nk : Int) != (nt : Int)) = true := by simp; omega
   have k5 : ((nk : Int) == (nt : Int)) = false := by simp; omega
   clear HYES HNO
   go_enter func45, ntmps45
   go_upto_region 1 with fail
   have HW0 := hid HZ.old
   generalize hW : (w.alloc (.cells (gc P Q G H a n cap) 25)).alloc (.cells (cc bt nt ct bb nb cb) 50) = W at *
   clear hW
   obtain ⟨d0, d1, d2, d3, d4, t0, t1⟩ := HT.out _ (Old.refl _)
   go_upto_region 2 with (go_at_call 42; refine (HIm.out _ HW0.out).mono ?_; rintro e w2 ⟨h2, ⟨hno, _⟩ | ⟨_, bf, hbf, rfl, hff⟩⟩; exact absurd hno (by decide))
   clear d0 d1 d2 d3 d4 t0 t1
   go_wp2_with fail
   go_ret
   exact ⟨zad HN.out.symm, HW0.out.trans h2⟩
set_option linter.unusedSimpArgs false in
theorem paccept7_any (label : List Int) (P Q G H : Int) (a : OA) (n cap : Nat) (bt : OA) (nt ct : Nat) (T : NI) (bb : OA) (nb cb : Nat) (BA : Nat -> Option Addr) (L C : Nat -> Nat) (B : NN) (bk : OA) (nk ck : Nat) (K : NI) (bz : OA) (nz cz : Nat) (X : NI) (w : World) (h4 : Four P Q G H) (hr : Righ P Q G) (hlb : Bts label) (hll : label.length <= 1000) (mt : nt <= 80) (mb : nb <= 80) (mL : ∀ j, j < nb -> L j <= 80) (mk : nk <= 80) (hC : ClaimIn w bt nt ct T bb nb cb BA L C B) (hK : FacsIn w bk nk K) (hX : FacsIn w bz nz X) :
  Calls prog 94 #[gv P Q G H a n cap, .string (strOfNums label), cv bt nt ct bb nb cb, cv bk nk ck bz nz cz] w fun e w' => e = .returned (.bool (accB P Q nt T nb L B nk K (chI label P Q G H nt T nb L B nk K) nz X)) /\ Old w w' := by
 have HZ := lain3 w (gc P Q G H a n cap) (cc bt nt ct bb nb cb) (cc bk nk ck bz nz cz) 25 50 55
 have HT : Hid (∀ w', Old (((w.alloc (.cells (gc P Q G H a n cap) 25)).alloc (.cells (cc bt nt ct bb nb cb) 50)).alloc (.cells (cc bk nk ck bz nz cz) 55)) w' -> G6 w' (w.heap.size) P Q G H (.slice a n cap) (w'.cell? ⟨w.heap.size + 1, 0, none⟩ = some (.slice bt nt ct) /\ w'.cell? ⟨w.heap.size + 1, 1, none⟩ = some (.slice bb nb cb) /\ w'.cell? ⟨w.heap.size + 1 + 1, 0, none⟩ = some (.slice bk nk ck) /\ w'.cell? ⟨w.heap.size + 1 + 1, 1, none⟩ = some (.slice bz nz cz))) := fun w' ho => by
  have h := HZ.then ho
  exact ⟨h.cell 0 0 (by simp) rfl, h.cell 0 1 (by simp) rfl, h.cell 0 2 (by simp) rfl, h.cell 0 3 (by simp) rfl, h.cell 0 4 (by simp) rfl, h.cell 1 0 (by simp) rfl, h.cell 1 1 (by simp) rfl, h.cell 2 0 (by simp) rfl, h.cell 2 1 (by simp) rfl⟩
 have HCh := hid fun wx (ho : Old w wx) => pchal_any label P Q G H a n cap bt nt ct T bb nb cb BA L C B bk nk ck K wx h4 hlb hll mt mb mL mk (hC.old ho) (hK.old ho)
 have hcu := ch_u64 label P Q G H nt T nb L B nk K
 generalize chI label P Q G H nt T nb L B nk K = ch at *
 have HAc := hid fun wx (ho : Old w wx) => laccepts_gen P Q G H a n cap bt nt ct T bb nb cb BA L C B bk nk ck K ch bz nz cz X wx h4 hr hcu (by omega) (hC.old ho) (hK.old ho) (hX.old ho)
 have HSz := hid fun wx (ho : Old w wx) => lsize_gen P Q G H a n cap bt nt ct T bb nb cb BA L C B wx h4 (hC.old ho)
 have HN : Hid (¬ (sizeN P Q nt T nb L B ≠ 0 /\ nk = nt) -> accB P Q nt T nb L B nk K ch nz X = false) := fun hno => by
  refine Bool.eq_false_iff.2 fun hyes => hno ?_
  have h := zdW.1 hyes
  exact ⟨(za2.1 h.1).1, h.2.1⟩
 have hszb := sizeN_le P Q nt T nb L B
 generalize accB P Q nt T nb L B nk K ch nz X = R at *
 clear h4 hr hlb hll mb mL hC hK hX hcu
 generalize sizeN P Q nt T nb L B = sz at *
 have HW0 := hid HZ.old
 by_cases hz : sz = 0
 ·subst hz
  have HS0 := hid HSz
  clear HSz
  have HN' := hid (HN.out fun h => h.1 rfl)
  go_enter func94, ntmps94
  go_upto_region 1 with fail
  generalize hW : (((w.alloc (.cells (gc P Q G H a n cap) 25)).alloc (.cells (cc bt nt ct bb nb cb) 50)).alloc (.cells (cc bk nk ck bz nz cz) 55)) = W at *
  clear hW
  obtain ⟨d0, d1, d2, d3, d4, z0, z1, y0, y1⟩ := HT.out _ (Old.refl _)
  go_wp2_with (go_at_call 36; refine (HS0.out _ HW0.out).mono ?_; rintro e w2 ⟨rfl, h2⟩; clear d0 d1 d2 d3 d4 z0 z1 y0 y1; obtain ⟨d0, d1, d2, d3, d4, z0, z1, y0, y1⟩ := HT.out _ h2)
  go_ret
  exact ⟨by rw [HN'.out]; rfl, HW0.out.trans h2⟩
 have k1 : ¬ (sz : Int) = 0 := by omega
 have k2 : ((sz : Int) == 0) = false := by simp; omega
 by_cases hk : nk = nt
 ·have k3 : ((nk : Int) != (nt : Int)) = false := by simp; omega
  clear hk
  go_enter func94, ntmps94
  go_upto_region 1 with fail
  generalize hW : (((w.alloc (.cells (gc P Q G H a n cap) 25)).alloc (.cells (cc bt nt ct bb nb cb) 50)).alloc (.cells (cc bk nk ck bz nz cz) 55)) = W at *
  clear hW
  obtain ⟨d0, d1, d2, d3, d4, z0, z1, y0, y1⟩ := HT.out _ (Old.refl _)
  go_upto_region 3 with (go_at_call 36; refine (HSz.out _ HW0.out).mono ?_; rintro e w2 ⟨rfl, h2⟩; clear d0 d1 d2 d3 d4 z0 z1 y0 y1; obtain ⟨d0, d1, d2, d3, d4, z0, z1, y0, y1⟩ := HT.out _ h2)
  have hd : Old W w2.drew := h2.drew
  go_region_held3 (fun w' => w'.cell? ⟨w.heap.size, 0, none⟩ = some (.int .u64 P) /\ w'.cell? ⟨w.heap.size, 1, none⟩ = some (.int .u64 Q) /\ w'.cell? ⟨w.heap.size, 2, none⟩ = some (.int .u64 G) /\ w'.cell? ⟨w.heap.size, 3, none⟩ = some (.int .u64 H) /\ w'.cell? ⟨w.heap.size, 4, none⟩ = some (.slice a n cap) /\ w'.cell? ⟨w.heap.size + 1, 0, none⟩ = some (.slice bt nt ct) /\ w'.cell? ⟨w.heap.size + 1, 1, none⟩ = some (.slice bb nb cb) /\ w'.cell? ⟨w.heap.size + 1 + 1, 0, none⟩ = some (.slice bk nk ck) /\ w'.cell? ⟨w.heap.size + 1 + 1, 1, none⟩ = some (.slice bz nz cz)) (first | exact HT.out _ h5 | exact HT.out _ h4 | exact HT.out _ hd) (first
   | (go_at_call 129; refine (HCh.out _ (HW0.out.trans hd)).mono ?_; rintro e w4 ⟨rfl, o4⟩; have h4 : Old W w4 := hd.trans o4)
   | (go_at_call 45; refine (HAc.out _ (HW0.out.trans h4)).mono ?_; rintro e w5 ⟨rfl, o5⟩; have h5 : Old W w5 := h4.trans o5))
  go_wp2_with fail
  go_ret
  exact ⟨rfl, HW0.out.trans h5⟩
 ·have HN' : Hid (R = false) := HN.out fun h => hk h.2
  have k3 : ¬ (nk : Int) = (nt : Int) := by omega
  have k4 : ((nk : Int) != (nt : Int)) = true := by simp; omega
  have k5 : ((nk : Int) == (nt : Int)) = false := by simp; omega
  go_enter func94, ntmps94
  go_upto_region 1 with fail
  generalize hW : (((w.alloc (.cells (gc P Q G H a n cap) 25)).alloc (.cells (cc bt nt ct bb nb cb) 50)).alloc (.cells (cc bk nk ck bz nz cz) 55)) = W at *
  clear hW
  obtain ⟨d0, d1, d2, d3, d4, z0, z1, y0, y1⟩ := HT.out _ (Old.refl _)
  go_wp2_with (go_at_call 36; refine (HSz.out _ HW0.out).mono ?_; rintro e w2 ⟨rfl, h2⟩; clear d0 d1 d2 d3 d4 z0 z1 y0 y1; obtain ⟨d0, d1, d2, d3, d4, z0, z1, y0, y1⟩ := HT.out _ h2)
  go_ret
  exact ⟨by rw [HN'.out]; rfl, HW0.out.trans h2⟩
theorem GivD.made {w w' : World} {nt : Nat} {T : NI} {L : Nat -> Nat} {B : NN} {r : Ending} (h : GivD w true nt T L B r w') (hT : ∀ j, j < nt -> U64 (T j)) (hB : ∀ j, j < nt -> ∀ i, i < L j -> U64 (B j i)) : ∃ bt ct bb cb BA C, r = .returned (.tuple #[cv bt nt ct bb nt cb, .bool true]) /\ Old w w' /\ ClaimIn w' bt nt ct T bb nt cb BA L C B := by
 obtain ⟨ho, v, u, rfl, h1, h2⟩ := h
 obtain ⟨bt, ct, rfl, q1, q2, hf⟩ := Nums.facs2 (k := nt) h1 hT
 obtain ⟨bb, cb, BA, C, rfl, q3, q4, hl⟩ := Rws.lists (nb := nt) h2 hB
 exact ⟨bt, ct, bb, cb, BA, C, rfl, ho, q1, q2, q3, q4, hf, hl⟩
theorem GivD.none {w w' : World} {nt : Nat} {T : NI} {L : Nat -> Nat} {B : NN} {r : Ending} (h : GivD w false nt T L B r w') : ∃ bt nt' ct bb nb cb, r = .returned (.tuple #[cv bt nt' ct bb nb cb, .bool false]) /\ Old w w' := by
 obtain ⟨ho, v, u, rfl, h1, h2⟩ := h
 obtain ⟨bt, ct, rfl⟩ := zau h1
 obtain ⟨bb, cb, rfl⟩ := zau h2.choose_spec.choose_spec.1
 exact ⟨_, _, _, _, _, _, rfl, ho⟩
theorem u64_tgt {P Q G X Y Z : Int} {n : Nat} {A B Pp : NI} {Ui Vi : NN} (hA : ∀ i, i < n -> U64 (A i)) (hB : ∀ i, i < n -> U64 (B i)) (hP : ∀ i, i < n -> U64 (Pp i)) (j : Nat) : U64 (tgtT P Q G X Y Z n A B Pp Ui Vi j) := by
 unfold tgtT tgt8
 split
 ·exact hA _ (by omega)
 ·split
  ·exact hB _ (by omega)
  ·split
   ·exact u64_over _ _ _
   ·split
    ·exact hP _ (by omega)
    ·split
     ·exact u64_over _ _ _
     ·unfold uvI; split <;> exact zaL _ _ _
theorem u64_bas {G H y : Int} {n : Nat} {Pp : NI} {O : NN} (hG : U64 G) (hH : U64 H) (hy : U64 y) (hP : ∀ i, i < n -> U64 (Pp i)) (hO : ∀ i k, i < n -> k < 6 -> U64 (O i k)) (j : Nat) (hj : j < 4 * n + 6) (k : Nat) : U64 (bas8 n Pp G H y (fun j w => O j (2 * w)) (fun j w => O j (2 * w + 1)) j k) := by
 have h1 : U64 1 := ⟨by decide, by decide⟩
 have r2 : ∀ p x q z, U64 x -> U64 z -> U64 (row28 p x q z k) := fun p x q z hx hz => by unfold row28; split; exact hx; split; exact hz; exact h1
 unfold bas8
 split
 ·exact r2 _ _ _ _ hG hH
 ·split
  ·exact r2 _ _ _ _ hG hH
  ·split
   ·exact r2 _ _ _ _ hG hH
   ·split
    ·exact r2 _ _ _ _ (hP _ (by omega)) hH
    ·split
     ·unfold row18; split; exact hH; exact h1
     ·split
      ·unfold rowS8; split; exact hO _ _ (by omega) (by omega); split; exact hG; exact h1
      ·unfold rowS8; split; exact hO _ _ (by omega) (by omega); split; exact hy; exact h1
def accS (P Q G H : Int) (label : List Int) (y : Int) (n : Nat) (C O : NN) (A B Pp : NI) (nk : Nat) (K : NI) (nz : Nat) (Xz : NI) (Xc Yc Zc : Int) : Bool :=
 clmB P Q G y n C n O n A n B n Pp Yc Zc && accB P Q (4 * n + 6) (tgtT P Q G Xc Yc Zc n A B Pp (fun j w => C j (2 * w)) (fun j w => C j (2 * w + 1))) (4 * n + 6) (fun _ => 7 * n + 3) (bas8 n Pp G H y (fun j w => O j (2 * w)) (fun j w => O j (2 * w + 1))) nk K (chI label P Q G H (4 * n + 6) (tgtT P Q G Xc Yc Zc n A B Pp (fun j w => C j (2 * w)) (fun j w => C j (2 * w + 1))) (4 * n + 6) (fun _ => 7 * n + 3) (bas8 n Pp G H y (fun j w => O j (2 * w)) (fun j w => O j (2 * w + 1))) nk K) nz Xz
theorem lacc_any (P Q G H : Int) (a : OA) (m cap : Nat) (label : List Int) (y : Int) (bi : OA) (ci : Nat) (C : NN) (bo : OA) (co : Nat) (O : NN) (ba : OA) (ca : Nat) (A : NI) (bb : OA) (cb : Nat) (B : NI) (bp : OA) (cp : Nat) (Pp : NI) (bk : OA) (nk ck : Nat) (K : NI) (bz : OA) (nz cz : Nat) (Xz : NI) (n : Nat) (Xc Yc Zc : Int) (w : World) (h1n : 0 < n) (hn : n <= 8) (h4 : Four P Q G H) (hr : Righ P Q G) (hy : U64 y) (hlb : Bts label) (hll : label.length <= 1000) (hca : n <= ca /\ ca <= 9223372036854775807) (hcb : n <= cb /\ cb <= 9223372036854775807) (mk : nk <= 80) (hC : BoxsIn w bi n C) (hO : BoxsIn w bo n O) (hA : FacsIn w ba n A) (hB : FacsIn w bb n B) (hP : FacsIn w bp n Pp) (hK : FacsIn w bk nk K) (hX : FacsIn w bz nz Xz)
  (hXc : Xc = chX label Q (knwS P Q G H y n C n O) n A) (hYc : Yc = chYZ 121 label Q (knwS P Q G H y n C n O) n A B) (hZc : Zc = chYZ 122 label Q (knwS P Q G H y n C n O) n A B) :
  Calls prog 34 #[gv P Q G H a m cap, .string (strOfNums label), .int .u64 y, .slice bi n ci, .slice bo n co, .agg #[.slice ba n ca, .slice bb n cb, .slice bp n cp, .slice bk nk ck, .slice bz nz cz]] w (Ret w (.bool (accS P Q G H label y n C O A B Pp nk K nz Xz Xc Yc Zc))) := by
 have uX : U64 Xc := by rw [hXc]; exact zas _ _ _ _
 have uY : U64 Yc := by rw [hYc]; exact zas _ _ _ _
 have uZ : U64 Zc := by rw [hZc]; exact zas _ _ _ _
 have HSz : Hid (∀ wx, Calls prog 79 #[.slice bi n ci, .slice bo n co, tk ba n ca 0 bb n cb 0 0 bp n cp] wx (Ret wx (.bool true))) := fun wx => by
  have := zcw bi n ci bo n co ba n ca 0 bb n cb 0 0 bp n cp wx (by omega)
  rwa [show fitB n n n n n = true from zcB.2 ⟨⟨h1n, hn⟩, rfl, rfl, rfl, rfl⟩] at this
 obtain ⟨S, hS⟩ : ∃ S, S = knwS P Q G H y n C n O := ⟨_, rfl⟩
 have HAs : Hid (∀ wx, Old w wx -> Calls prog 89 #[gv P Q G H a m cap, .string (strOfNums label), .int .u64 y, .slice bi n ci, .slice bo n co] wx fun e w' => Old wx w' /\ ∃ kb sb lb qb, e = .returned (askV kb lb qb) /\ AskIn w' kb sb lb qb S label Q) := fun wx ho => by rw [hS]; exact zeQ P Q G H a m cap label y bi n ci C bo n co O wx h4 hy (by omega) (by omega) (hC.old ho) (hO.old ho)
 have hSb : ∀ i, i < 3 -> Bts (S i) := by rw [hS]; exact knwS_bd _ _ _ _ _ _ _ _ _
 have hSl : ∀ i, (S i).length <= 640 := by rw [hS]; exact knwS_len _ _ _ _ _ _ _ hn hn
 have HX1 : Hid (∀ (wx : World) (b kb sb lb qb : Nat), Old w wx -> AskIn wx kb sb lb qb S label Q -> wx.heap[b]? = some (.cells #[.slice ba n ca] 29 (0, 0)) -> Calls prog 127 #[.string (strOfNums [120]), .slice (some ⟨b, 0, none⟩) 1 1, .pointer (some ⟨kb, 0, none⟩), .pointer (some ⟨lb, 0, none⟩), .pointer (some ⟨qb, 0, none⟩)] wx (Ret wx (.int .u64 Xc))) := fun wx b kb sb lb qb ho hk hb => by
  rw [hXc, <- hS]
  exact sak_any [120] label S Q kb sb lb qb _ 1 1 _ _ _ _ wx (by intro x hx; simp at hx; subst hx; decide) (by simp) hSb hSl hlb hll (by omega) (fun j _ => by show n <= 80; omega) hk.k hk.s hk.l hk.g (lists_one hb hca.1 hca.2 (hA.old ho))
 have HX2 : Hid (∀ (c : Int) (wx : World) (b kb sb lb qb : Nat), 0 <= c -> c <= 255 -> Old w wx -> AskIn wx kb sb lb qb S label Q -> wx.heap[b]? = some (.cells #[.slice ba n ca, .slice bb n cb] 29 (0, 0)) -> Calls prog 127 #[.string (strOfNums [c]), .slice (some ⟨b, 0, none⟩) 2 2, .pointer (some ⟨kb, 0, none⟩), .pointer (some ⟨lb, 0, none⟩), .pointer (some ⟨qb, 0, none⟩)] wx (Ret wx (.int .u64 (chYZ c label Q S n A B)))) := fun c wx b kb sb lb qb h0 h1 ho hk hb =>
  sak_any [c] label S Q kb sb lb qb _ 2 2 _ _ _ _ wx (by intro x hx; simp at hx; subst hx; exact ⟨h0, by omega⟩) (by simp) hSb hSl hlb hll (by omega) (fun j hj => by match j, hj with | 0, _ => (show n <= 80; omega) | 1, _ => (show n <= 80; omega)) hk.k hk.s hk.l hk.g (lists_two hb hca.1 hca.2 hcb.1 hcb.2 (hA.old ho) (hB.old ho))
 have hTu : ∀ j, U64 ((tgtT P Q G Xc Yc Zc n A B Pp (fun j w => C j (2 * w)) (fun j w => C j (2 * w + 1))) j) := u64_tgt (fun i hi => hA.u64 i hi) (fun i hi => hB.u64 i hi) (fun i hi => hP.u64 i hi)
 have hBu : ∀ j, j < 4 * n + 6 -> ∀ k, U64 ((bas8 n Pp G H y (fun j w => O j (2 * w)) (fun j w => O j (2 * w + 1))) j k) := u64_bas ⟨h4.g0, h4.g1⟩ ⟨h4.h0, h4.h1⟩ hy (fun i hi => hP.u64 i hi) (fun i k hi hk => hO.u64 hi hk)
 have HCl := hid fun wx (ho : Old w wx) => zfg P Q G H a m cap y bi n ci C bo n co O ba n ca A Xc bb n cb B Yc Zc bp n cp Pp wx (by omega) h4 hr hy uX uY uZ (hC.old ho) (hO.old ho) (hA.old ho) (hB.old ho) (hP.old ho)
 obtain ⟨acc, hacc⟩ : ∃ acc, acc = accB P Q (4 * n + 6) ((tgtT P Q G Xc Yc Zc n A B Pp (fun j w => C j (2 * w)) (fun j w => C j (2 * w + 1)))) (4 * n + 6) (fun _ => 7 * n + 3) ((bas8 n Pp G H y (fun j w => O j (2 * w)) (fun j w => O j (2 * w + 1)))) nk K (chI label P Q G H (4 * n + 6) ((tgtT P Q G Xc Yc Zc n A B Pp (fun j w => C j (2 * w)) (fun j w => C j (2 * w + 1)))) (4 * n + 6) (fun _ => 7 * n + 3) ((bas8 n Pp G H y (fun j w => O j (2 * w)) (fun j w => O j (2 * w + 1)))) nk K) nz Xz := ⟨_, rfl⟩
 have HAc : Hid (∀ wx bt ct b2 c2 BA Cc, Old w wx -> ClaimIn wx bt (4 * n + 6) ct ((tgtT P Q G Xc Yc Zc n A B Pp (fun j w => C j (2 * w)) (fun j w => C j (2 * w + 1)))) b2 (4 * n + 6) c2 BA (fun _ => 7 * n + 3) Cc ((bas8 n Pp G H y (fun j w => O j (2 * w)) (fun j w => O j (2 * w + 1)))) -> Calls prog 94 #[gv P Q G H a m cap, .string (strOfNums label), cv bt (4 * n + 6) ct b2 (4 * n + 6) c2, cv bk nk ck bz nz cz] wx (Ret wx (.bool acc))) := fun wx bt ct b2 c2 BA Cc ho hc => by
  rw [hacc]
  exact paccept7_any label P Q G H a m cap bt (4 * n + 6) ct _ b2 (4 * n + 6) c2 BA _ Cc _ bk nk ck K bz nz cz Xz wx h4 hr hlb hll (by omega) (by omega) (fun j _ => by show 7 * n + 3 <= 80; omega) mk hc (hK.old ho) (hX.old ho)
 have HV : Hid (accS P Q G H label y n C O A B Pp nk K nz Xz Xc Yc Zc = (clmB P Q G y n C n O n A n B n Pp Yc Zc && acc)) := by unfold Hid accS; rw [hacc]
 rw [HV.out]
 rw [<- hS] at hYc hZc
 generalize clmB P Q G y n C n O n A n B n Pp Yc Zc = ok at *
 generalize (tgtT P Q G Xc Yc Zc n A B Pp (fun j w => C j (2 * w)) (fun j w => C j (2 * w + 1))) = Tg at *
 generalize (bas8 n Pp G H y (fun j w => O j (2 * w)) (fun j w => O j (2 * w + 1))) = Bg at *
 have HTu := hid hTu
 have HBu := hid hBu
 have HYc := hid hYc.symm
 have HZc := hid hZc.symm
 clear h4 hr hy hlb hll hca hcb mk hC hO hA hB hP hK hX hXc hYc hZc uX uY uZ hSb hSl hS hTu hBu hacc HV
 have HZ := lain2 w (gc P Q G H a m cap) #[.slice ba n ca, .slice bb n cb, .slice bp n cp, .slice bk nk ck, .slice bz nz cz] 25 57
 have HG0 := fun w' ho => (HZ.then (W' := w') ho).row 0 (by simp)
 have HT0 := fun w' ho => (HZ.then (W' := w') ho).row 1 (by simp)
 have HW0 := hid HZ.old
 clear HZ
 go_enter func34, ntmps34
 go_upto_region 1 with fail
 generalize (w.alloc (.cells (gc P Q G H a m cap) 25)).alloc (.cells #[.slice ba n ca, .slice bb n cb, .slice bp n cp, .slice bk nk ck, .slice bz nz cz] 57) = W1 at *
 have HG := hid HG0
 have HS1 := hid HT0
 clear HG0 HT0
 obtain ⟨gb, hgb⟩ : ∃ gb, gb = w.heap.size := ⟨_, rfl⟩
 rw [<- hgb] at HG HS1
 rw [<- hgb]
 clear hgb
 have HGc : Hid (∀ wx, Old W1 wx -> G5 wx (gb) P Q G H (.slice a m cap)) := fun wx ho => g5 (HG.out _ ho)
 have HSc : Hid (∀ wx, Old W1 wx -> wx.cell? ⟨gb + 1, 0, none⟩ = some (.slice ba n ca) /\ wx.cell? ⟨gb + 1, 1, none⟩ = some (.slice bb n cb) /\ wx.cell? ⟨gb + 1, 2, none⟩ = some (.slice bp n cp) /\ wx.cell? ⟨gb + 1, 3, none⟩ = some (.slice bk nk ck) /\ wx.cell? ⟨gb + 1, 4, none⟩ = some (.slice bz nz cz)) := fun wx ho => g5 (HS1.out _ ho)
 clear HG HS1
 obtain ⟨s0, s1, s2, s3, s4⟩ := HSc.out _ (Old.refl _)
 have HO2 : Hid (Old W1 (W1.alloc (.cells (tkc ba n ca 0 bb n cb 0 0 bp n cp) 41))) := (Old.refl _).alloc _
 have HR2 : Hid ((W1.alloc (.cells (tkc ba n ca 0 bb n cb 0 0 bp n cp) 41)).heap[W1.heap.size]? = some (.cells (tkc ba n ca 0 bb n cb 0 0 bp n cp) 41 (0, 0))) := heap_alloc_last _ _
 go_upto_region 2 with fail
 clear s0 s1 s2 s3 s4
 generalize W1.alloc (.cells (tkc ba n ca 0 bb n cb 0 0 bp n cp) 41) = W2 at *
 obtain ⟨tb, htb⟩ : ∃ tb, tb = W1.heap.size := ⟨_, rfl⟩
 rw [<- htb] at HR2
 rw [<- htb]
 have Htb : Hid (W1.heap.size <= tb) := by unfold Hid; omega
 clear htb
 have HTc : Hid (∀ wx, Old W2 wx -> wx.cell? ⟨tb, 0, none⟩ = some (.slice ba n ca) /\ wx.cell? ⟨tb, 1, none⟩ = some (.int .u64 0) /\ wx.cell? ⟨tb, 2, none⟩ = some (.slice bb n cb) /\ wx.cell? ⟨tb, 3, none⟩ = some (.int .u64 0) /\ wx.cell? ⟨tb, 4, none⟩ = some (.int .u64 0) /\ wx.cell? ⟨tb, 5, none⟩ = some (.slice bp n cp)) := fun wx ho => by
  have hrow := (ho.block _ (zag HR2.out)).trans HR2.out
  exact ⟨Y0 hrow, Y1 hrow, Y2 hrow, Y3 hrow, Y4 hrow, Y5 hrow⟩
 obtain ⟨t0, t1, t2, t3, t4, t5⟩ := HTc.out _ (Old.refl _)
 go_upto_region 4 with (go_at_call 79; refine (HSz.out _).mono ?_; rintro e w3 ⟨rfl, o3⟩)
 clear t0 t1 t2 t3 t4 t5 HTc
 have HO3 := hid (HO2.out.trans o3)
 obtain ⟨g0, g1, g2, g3, g4⟩ := HGc.out _ HO3.out
 go_upto_region 5 with (go_at_call 89; refine (HAs.out _ (HW0.out.trans HO3.out)).mono ?_; rintro e w4 ⟨o4, kb, sb, lb, qb, rfl, hask⟩)
 clear g0 g1 g2 g3 g4
 have HAk := hid fun wx (ho : Old w4 wx) => hask.old ho
 have HO4 := hid (HO3.out.trans o4)
 have HR4 : Hid (w4.heap[tb]? = some (.cells (tkc ba n ca 0 bb n cb 0 0 bp n cp) 41 (0, 0))) := ((o3.trans o4).block _ (zag HR2.out)).trans HR2.out
 have HTr := hid fun wx (ho : Old w4 wx) => (ho.block _ (zag HR4.out)).trans HR4.out
 clear hask o3 o4 HO3 HR2 HO2 HSz HAs
 refine zaa 20 [.k (askV kb lb qb), .k (.pointer (some ⟨tb, 0, none⟩)), .k (.slice ba n ca), blkE 1 #[.slice ba n ca] 29, .k (.int .u64 Xc), .k (askV kb lb qb), .k (.pointer (some ⟨tb, 0, none⟩)), .k (.slice ba n ca), .k (.pointer (some ⟨tb, 2, none⟩)), .k (.slice bb n cb), blkE 2 #[.slice ba n ca, .slice bb n cb] 29, .k (.int .u64 Yc), .k (askV kb lb qb), .k (.pointer (some ⟨tb, 0, none⟩)), .k (.slice ba n ca), .k (.pointer (some ⟨tb, 2, none⟩)), .k (.slice bb n cb), blkE 2 #[.slice ba n ca, .slice bb n cb] 29, .k (.int .u64 Zc), .k (.pointer (some ⟨tb, 1, none⟩))] (Old w4) (by kernel_rfl) (by kernel_rfl) rfl ((Old.refl _).drew) ?st ?_
 case st =>
  refine .p <| .p <| .c (stf 0 U29 HTr.out) <| .c (stm (ob := fun t => .cells #[.slice ba n ca] 29) (v := fun s => .slice (some ⟨s, 0, none⟩) 1 1) old_R fun t wx hR hd => ⟨_, rfl, heap_alloc_last _ _⟩) <| .c (stCf #[.pointer (some ⟨kb, 0, none⟩), .pointer (some ⟨lb, 0, none⟩), .pointer (some ⟨qb, 0, none⟩)] (args := fun t => #[.string (strOfNums [120]), t 3, .pointer (some ⟨kb, 0, none⟩), .pointer (some ⟨lb, 0, none⟩), .pointer (some ⟨qb, 0, none⟩)]) old_R func127 fun t wx hR hd => ?_) <| .p <| .p <| .c (stf 0 U29 HTr.out) <| .p <| .c (stf 2 U29 HTr.out) <| .c (stm (ob := fun t => .cells #[.slice ba n ca, .slice bb n cb] 29) (v := fun s => .slice (some ⟨s, 0, none⟩) 2 2) old_R fun t wx hR hd => ⟨_, rfl, heap_alloc_last _ _⟩) <| .c (stCf #[.pointer (some ⟨kb, 0, none⟩), .pointer (some ⟨lb, 0, none⟩), .pointer (some ⟨qb, 0, none⟩)] (args := fun t => #[.string (strOfNums [121]), t 10, .pointer (some ⟨kb, 0, none⟩), .pointer (some ⟨lb, 0, none⟩), .pointer (some ⟨qb, 0, none⟩)]) old_R func127 fun t wx hR hd => ?_) <| .p <| .p <| .c (stf 0 U29 HTr.out) <| .p <| .c (stf 2 U29 HTr.out) <| .c (stm (ob := fun t => .cells #[.slice ba n ca, .slice bb n cb] 29) (v := fun s => .slice (some ⟨s, 0, none⟩) 2 2) old_R fun t wx hR hd => ⟨_, rfl, heap_alloc_last _ _⟩) <| .c (stCf #[.pointer (some ⟨kb, 0, none⟩), .pointer (some ⟨lb, 0, none⟩), .pointer (some ⟨qb, 0, none⟩)] (args := fun t => #[.string (strOfNums [122]), t 17, .pointer (some ⟨kb, 0, none⟩), .pointer (some ⟨lb, 0, none⟩), .pointer (some ⟨qb, 0, none⟩)]) old_R func127 fun t wx hR hd => ?_) <| .c stp .n
  ·obtain ⟨b, e, hb⟩ : ∃ b, t 3 = .slice (some ⟨b, 0, none⟩) 1 1 /\ wx.heap[b]? = some (.cells #[.slice ba n ca] 29 (0, 0)) := hd 3 (by kernel_rfl)
   rw [e]
   exact (HX1.out wx b kb sb lb qb (HW0.out.trans (HO4.out.trans hR)) (HAk.out wx hR) hb).mono fun r w' ⟨h, k⟩ => ⟨_, h, k, rfl⟩
  ·obtain ⟨b, e, hb⟩ : ∃ b, t 10 = .slice (some ⟨b, 0, none⟩) 2 2 /\ wx.heap[b]? = some (.cells #[.slice ba n ca, .slice bb n cb] 29 (0, 0)) := hd 10 (by kernel_rfl)
   rw [e]
   exact (HX2.out 121 wx b kb sb lb qb (by decide) (by decide) (HW0.out.trans (HO4.out.trans hR)) (HAk.out wx hR) hb).mono fun r w' ⟨h, k⟩ => ⟨_, h, k, by rw [HYc.out]; rfl⟩
  ·obtain ⟨b, e, hb⟩ : ∃ b, t 17 = .slice (some ⟨b, 0, none⟩) 2 2 /\ wx.heap[b]? = some (.cells #[.slice ba n ca, .slice bb n cb] 29 (0, 0)) := hd 17 (by kernel_rfl)
   rw [e]
   exact (HX2.out 122 wx b kb sb lb qb (by decide) (by decide) (HW0.out.trans (HO4.out.trans hR)) (HAk.out wx hR) hb).mono fun r w' ⟨h, k⟩ => ⟨_, h, k, by rw [HZc.out]; rfl⟩
 intro t wx hR hk
 simp only [fill, Ent.val, blkE, zs0, zs1, zd1, zd0, zdn]
 have hrow := HTr.out _ hR
 have q1 : wx.cell? ⟨tb, 1, none⟩ = some (.int .u64 0) := Y1 hrow
 have q3 : wx.cell? ⟨tb, 3, none⟩ = some (.int .u64 0) := Y3 hrow
 have q4 : wx.cell? ⟨tb, 4, none⟩ = some (.int .u64 0) := Y4 hrow
 have f1 : wx.frozen? ⟨tb, 1, none⟩ = false := zac hrow 1
 have f3 : wx.frozen? ⟨tb, 3, none⟩ = false := zac hrow 3
 have f4 : wx.frozen? ⟨tb, 4, none⟩ = false := zac hrow 4
 have HO5 : Hid (Old W1 (((wx.setCell ⟨tb, 1, none⟩ (.int .u64 Xc)).setCell ⟨tb, 3, none⟩ (.int .u64 Yc)).setCell ⟨tb, 4, none⟩ (.int .u64 Zc))) := (((HO4.out.trans hR).setCell (p := ⟨tb, 1, none⟩) Htb.out _).setCell (p := ⟨tb, 3, none⟩) Htb.out _).setCell (p := ⟨tb, 4, none⟩) Htb.out _
 have HR5 : Hid ((((wx.setCell ⟨tb, 1, none⟩ (.int .u64 Xc)).setCell ⟨tb, 3, none⟩ (.int .u64 Yc)).setCell ⟨tb, 4, none⟩ (.int .u64 Zc)).heap[tb]? = some (.cells (tkc ba n ca Xc bb n cb Yc Zc bp n cp) 41 (0, 0))) := by
  have := zaq (zaq (zaq hrow 1 (.int .u64 Xc)) 3 (.int .u64 Yc)) 4 (.int .u64 Zc)
  unfold Hid; simpa using this
 clear hrow hR hk HTr HR4 HO4 HAk HX1 HX2 HYc HZc
 go_upto_region 6 with fail
 clear q1 q3 q4 f1 f3 f4
 generalize (((wx.setCell ⟨tb, 1, none⟩ (.int .u64 Xc)).setCell ⟨tb, 3, none⟩ (.int .u64 Yc)).setCell ⟨tb, 4, none⟩ (.int .u64 Zc)) = w5 at *
 obtain ⟨t0, t1, t2, t3, t4, t5⟩ := g6 HR5.out
 obtain ⟨g0, g1, g2, g3, g4⟩ := HGc.out _ HO5.out
 cases ok with
 | true =>
  go_upto_region 7 with (go_at_call 28; refine (HCl.out _ (HW0.out.trans HO5.out)).mono ?_; intro e w6 hd; obtain ⟨bt, ct, b2, c2, BA, Cc, rfl, o6, hcl⟩ := GivD.made hd (fun j _ => HTu.out j) (fun j hj i _ => HBu.out j hj i))
  clear t0 t1 t2 t3 t4 t5 g0 g1 g2 g3 g4 hd
  have HOc : Old w6 (w6.alloc (.cells #[.slice bt (4 * n + 6) ct, .slice b2 (4 * n + 6) c2] 50)) := (Old.refl _).alloc _
  have HO7 := hid ((HO5.out.trans o6).trans HOc)
  have HC7 := hid (hcl.old HOc)
  have hrow := heap_alloc_last w6 (.cells #[.slice bt (4 * n + 6) ct, .slice b2 (4 * n + 6) c2] 50)
  have c0 : (w6.alloc (.cells #[.slice bt (4 * n + 6) ct, .slice b2 (4 * n + 6) c2] 50)).cell? ⟨w6.heap.size, 0, none⟩ = some (.slice bt (4 * n + 6) ct) := Y0 hrow
  have c1 : (w6.alloc (.cells #[.slice bt (4 * n + 6) ct, .slice b2 (4 * n + 6) c2] 50)).cell? ⟨w6.heap.size, 1, none⟩ = some (.slice b2 (4 * n + 6) c2) := Y1 hrow
  clear hrow HOc hcl HTu HBu HCl HR5
  generalize w6.alloc (.cells #[.slice bt (4 * n + 6) ct, .slice b2 (4 * n + 6) c2] 50) = w7 at *
  obtain ⟨g0, g1, g2, g3, g4⟩ := HGc.out _ HO7.out
  obtain ⟨s0, s1, s2, s3, s4⟩ := HSc.out _ HO7.out
  clear s0 s1 s2
  go_wp2_with (go_at_call 94; refine (HAc.out _ bt ct b2 c2 BA Cc (HW0.out.trans HO7.out) HC7.out).mono ?_; rintro e w8 ⟨rfl, o8⟩)
  go_ret
  exact ⟨by rfl, (HW0.out.trans HO7.out).trans o8⟩
 | false =>
  go_upto_region 7 with (go_at_call 28; refine (HCl.out _ (HW0.out.trans HO5.out)).mono ?_; intro e w6 hd; obtain ⟨bt, nt', ct, b2, nb', c2, rfl, o6⟩ := GivD.none hd)
  clear t0 t1 t2 t3 t4 t5 g0 g1 g2 g3 g4 hd
  have HO7 : Hid (Old w (w6.alloc (.cells #[.slice bt nt' ct, .slice b2 nb' c2] 50))) := ((HW0.out.trans HO5.out).trans o6).alloc _
  go_wp2_with fail
  go_ret
  exact ⟨by rfl, HO7.out⟩
theorem sacc_no (P Q G H : Int) (a : OA) (m cap : Nat) (label : List Int) (y : Int) (bi : OA) (l ci : Nat) (bo : OA) (no co : Nat) (ba : OA) (na ca : Nat) (bb : OA) (nb cb : Nat) (bp : OA) (np cp : Nat) (bk : OA) (nk ck : Nat) (bz : OA) (nz cz : Nat) (w : World) (hl : l <= 9223372036854775807) (hf : fitB l no na nb np = false) :
  Calls prog 34 #[gv P Q G H a m cap, .string (strOfNums label), .int .u64 y, .slice bi l ci, .slice bo no co, .agg #[.slice ba na ca, .slice bb nb cb, .slice bp np cp, .slice bk nk ck, .slice bz nz cz]] w (Ret w (.bool false)) := by
 have HSz : Hid (∀ wx, Calls prog 79 #[.slice bi l ci, .slice bo no co, tk ba na ca 0 bb nb cb 0 0 bp np cp] wx (Ret wx (.bool false))) := fun wx => by
  have := zcw bi l ci bo no co ba na ca 0 bb nb cb 0 0 bp np cp wx hl
  rwa [hf] at this
 clear hl hf
 have HZ := lain2 w (gc P Q G H a m cap) #[.slice ba na ca, .slice bb nb cb, .slice bp np cp, .slice bk nk ck, .slice bz nz cz] 25 57
 have HT0 := fun w' ho => (HZ.then (W' := w') ho).row 1 (by simp)
 have HW0 := hid HZ.old
 clear HZ
 go_enter func34, ntmps34
 go_upto_region 1 with fail
 generalize (w.alloc (.cells (gc P Q G H a m cap) 25)).alloc (.cells #[.slice ba na ca, .slice bb nb cb, .slice bp np cp, .slice bk nk ck, .slice bz nz cz] 57) = W1 at *
 have HS1 := hid HT0
 clear HT0
 generalize w.heap.size = gb at *
 have s0 : W1.cell? ⟨gb + 1, 0, none⟩ = some (.slice ba na ca) := Y0 (HS1.out _ (Old.refl _))
 have s1 : W1.cell? ⟨gb + 1, 1, none⟩ = some (.slice bb nb cb) := Y1 (HS1.out _ (Old.refl _))
 have s2 : W1.cell? ⟨gb + 1, 2, none⟩ = some (.slice bp np cp) := Y2 (HS1.out _ (Old.refl _))
 have HO2 : Hid (Old W1 (W1.alloc (.cells (tkc ba na ca 0 bb nb cb 0 0 bp np cp) 41))) := (Old.refl _).alloc _
 have HR2 : Hid ((W1.alloc (.cells (tkc ba na ca 0 bb nb cb 0 0 bp np cp) 41)).heap[W1.heap.size]? = some (.cells (tkc ba na ca 0 bb nb cb 0 0 bp np cp) 41 (0, 0))) := heap_alloc_last _ _
 go_upto_region 2 with fail
 clear s0 s1 s2 HS1
 generalize W1.alloc (.cells (tkc ba na ca 0 bb nb cb 0 0 bp np cp) 41) = W2 at *
 generalize W1.heap.size = tb at *
 obtain ⟨t0, t1, t2, t3, t4, t5⟩ := g6 HR2.out
 go_wp2_with (go_at_call 79; refine (HSz.out _).mono ?_; rintro e w3 ⟨rfl, o3⟩)
 go_ret
 exact ⟨rfl, (HW0.out.trans HO2.out).trans o3⟩
theorem zbp : (prog.info? 55).map (·.size) = some 2 := by kernel_rfl
def GivesP (w : World) (ok : Bool) (nt : Nat) (F : NI) (nz : Nat) (Z : NI) (r : Ending) (w' : World) : Prop :=
 Old w w' /\ ∃ v u, r = .returned (.tuple #[.agg #[v, u], .bool ok]) /\ Nums w' w.heap.size v (if ok then nt else 0) F /\ Nums w' w.heap.size u (if ok then nz else 0) Z
theorem zdc {w w' : World} {ok : Bool} {nt : Nat} {F : NI} {nz : Nat} {Z : NI} (h : ok = false) (ho : Old w w') : GivesP w ok nt F nz Z (.returned (.tuple #[.agg #[.slice none 0 0, .slice none 0 0], .bool false])) w' := by
 subst h
 exact ⟨ho, _, _, rfl, zaD _ _ _, zaD _ _ _⟩
theorem zfl {w w' : World} {ok : Bool} {nt : Nat} {F : NI} {nz : Nat} {Z : NI} {v u : Value} (h : ok = true) (ho : Old w w') (h1 : Nums w' w.heap.size v nt F) (h2 : Nums w' w.heap.size u nz Z) : GivesP w ok nt F nz Z (.returned (.tuple #[.agg #[v, u], .bool true])) w' := by
 subst h
 exact ⟨ho, _, _, rfl, h1, h2⟩
theorem zeH (Q e w d : Int) : U64 (ansI Q e w d) := ⟨(zbZ _ _ _).1, Int.le_trans (zbZ _ _ _).2 (by omega)⟩
def provB (sz nw nd : Nat) : Bool := fitsB sz nd && decide (nw = nd)
set_option linter.unusedSimpArgs false in
theorem rprove_any (label : List Int) (P Q G H : Int) (a : OA) (n cap : Nat) (bt : OA) (nt ct : Nat) (T : NI) (bb : OA) (nb cb : Nat) (BA : Nat -> Option Addr) (L C : Nat -> Nat) (B : NN) (bw : OA) (nw cw : Nat) (X : NI) (bd : OA) (nd cd : Nat) (Y F : NI) (hF : F = fun j => imI P Q (B j) Y (sizeN P Q nt T nb L B)) (w : World) (h4 : Four P Q G H) (hlb : Bts label) (hll : label.length <= 1000) (mt : nt <= 80) (mb : nb <= 80) (mL : ∀ j, j < nb -> L j <= 80) (mw : nw <= 80) (hC : ClaimIn w bt nt ct T bb nb cb BA L C B) (hX : FacsIn w bw nw X) (hY : FacsIn w bd nd Y) :
  Calls prog 92 #[gv P Q G H a n cap, .string (strOfNums label), cv bt nt ct bb nb cb, .slice bw nw cw, .slice bd nd cd] w (GivesP w (provB (sizeN P Q nt T nb L B) nw nd) nt F nw (fun k => ansI Q (chI label P Q G H nt T nb L B nt F) (X k) (Y k))) := by
 have HZ := lain3 w (gc P Q G H a n cap) (cc bt nt ct bb nb cb) (cc none 0 0 none 0 0) 25 50 55
 have HT : Hid (∀ w', Old (((w.alloc (.cells (gc P Q G H a n cap) 25)).alloc (.cells (cc bt nt ct bb nb cb) 50)).alloc (.cells (cc none 0 0 none 0 0) 55)) w' -> G6 w' (w.heap.size) P Q G H (.slice a n cap) (w'.cell? ⟨w.heap.size + 1, 0, none⟩ = some (.slice bt nt ct) /\ w'.cell? ⟨w.heap.size + 1, 1, none⟩ = some (.slice bb nb cb))) := fun w' ho => by
  have h := HZ.then ho
  exact ⟨h.cell 0 0 (by simp) rfl, h.cell 0 1 (by simp) rfl, h.cell 0 2 (by simp) rfl, h.cell 0 3 (by simp) rfl, h.cell 0 4 (by simp) rfl, h.cell 1 0 (by simp) rfl, h.cell 1 1 (by simp) rfl⟩
 have HRS := hid fun w' (ho : Old (((w.alloc (.cells (gc P Q G H a n cap) 25)).alloc (.cells (cc bt nt ct bb nb cb) 50)).alloc (.cells (cc none 0 0 none 0 0) 55)) w') => (HZ.then ho).row 2 (by simp)
 have HIm : Hid (∀ wx, Old w wx -> Calls prog 133 #[gv P Q G H a n cap, cv bt nt ct bb nb cb, .slice bd nd cd] wx (Gives wx (fitsB (sizeN P Q nt T nb L B) nd) nt F)) := fun wx ho => by rw [hF]; exact rimage_any P Q G H a n cap bt nt ct T bb nb cb BA L C B bd nd cd Y wx h4 (hC.old ho) (hY.old ho)
 have HFU : Hid (∀ j, U64 (F j)) := fun j => by rw [hF]; exact zdm _ _ _
 have HCh := hid fun b c wx (ho : Old w wx) (hf : FacsIn wx b nt F) => rchal_any label P Q G H a n cap bt nt ct T bb nb cb BA L C B b nt c F wx h4 hlb hll mt mb mL mt (hC.old ho) hf
 have hcu := ch_u64 label P Q G H nt T nb L B nt F
 generalize chI label P Q G H nt T nb L B nt F = ch at *
 obtain ⟨Z, hZ⟩ : ∃ Z : Nat -> Int, Z = fun k => ansI Q ch (X k) (Y k) := ⟨_, rfl⟩
 rw [<- hZ]
 have HAn : Hid (∀ wx, Old w wx -> Calls prog 134 #[gv P Q G H a n cap, .slice bw nw cw, .slice bd nd cd, .int .u64 ch] wx (Gives wx (decide (nw = nd)) nw Z)) := fun wx ho => by rw [hZ]; exact ranswer_any P Q G H a n cap bw nw cw X bd nd cd Y ch wx hcu mw (hX.old ho) (hY.old ho)
 have HZU : Hid (∀ k, U64 (Z k)) := fun k => by rw [hZ]; exact zeH _ _ _ _
 clear hZ hF h4 hlb hll mL hC hX hY hcu mt mb
 generalize sizeN P Q nt T nb L B = sz at *
 cases hok : fitsB sz nd with
 | false =>
  have HN : Hid (provB sz nw nd = false) := by unfold Hid provB; rw [hok]; rfl
  rw [hok] at HIm
  clear hok
  go_enter func92, ntmps92
  go_upto_region 1 with fail
  have HW0 := hid HZ.old
  generalize hW : ((w.alloc (.cells (gc P Q G H a n cap) 25)).alloc (.cells (cc bt nt ct bb nb cb) 50)).alloc (.cells (cc none 0 0 none 0 0) 55) = W at *
  clear hW
  obtain ⟨d0, d1, d2, d3, d4, z0, z1⟩ := HT.out _ (Old.refl _)
  go_upto_region 2 with (go_at_call 133; refine (HIm.out _ HW0.out).mono ?_; rintro e w2 ⟨v, rfl, hN, h2⟩)
  clear d0 d1 d2 d3 d4 z0 z1 hN
  have HR := HRS.out _ h2
  have q0 : w2.cell? ⟨w.heap.size + 1 + 1, 0, none⟩ = some (.slice none 0 0) := Y0 HR
  have q1 : w2.cell? ⟨w.heap.size + 1 + 1, 1, none⟩ = some (.slice none 0 0) := Y1 HR
  have f0 : w2.frozen? ⟨w.heap.size + 1 + 1, 0, none⟩ = false := zac HR 0
  have f1 : w2.frozen? ⟨w.heap.size + 1 + 1, 1, none⟩ = false := zac HR 1
  have HRh := hid HR
  clear HR
  go_wp2_with fail
  exact bodyPost_ret (zay (b := w.heap.size + 1 + 1) rfl rfl rfl (zaW HRh.out U55 zbp)) rfl (zdc HN.out (Old.setCell (p := ⟨w.heap.size + 1 + 1, 1, none⟩) (Old.setCell (p := ⟨w.heap.size + 1 + 1, 0, none⟩) (HW0.out.trans h2) (by show w.heap.size <= w.heap.size + 1 + 1; omega) _) (by show w.heap.size <= w.heap.size + 1 + 1; omega) _))
 | true =>
  rw [hok] at HIm
  by_cases hnn : nw = nd
  ·subst hnn
   have HN : Hid (provB sz nw nw = true) := by unfold Hid provB; rw [hok]; simp
   have k1 : decide (nw = nw) = true := by simp
   rw [k1] at HAn
   clear hok k1
   go_enter func92, ntmps92
   go_upto_region 1 with fail
   have HW0 := hid HZ.old
   have hs0 : w.heap.size + 1 + 1 < (((w.alloc (.cells (gc P Q G H a n cap) 25)).alloc (.cells (cc bt nt ct bb nb cb) 50)).alloc (.cells (cc none 0 0 none 0 0) 55)).heap.size := by simp
   generalize hW : ((w.alloc (.cells (gc P Q G H a n cap) 25)).alloc (.cells (cc bt nt ct bb nb cb) 50)).alloc (.cells (cc none 0 0 none 0 0) 55) = W at *
   clear hW
   obtain ⟨d0, d1, d2, d3, d4, z0, z1⟩ := HT.out _ (Old.refl _)
   go_upto_region 2 with (go_at_call 133; refine (HIm.out _ HW0.out).mono ?_; rintro e w2 ⟨v, rfl, hN, h2⟩)
   simp only [if_true] at hN
   obtain ⟨bf, cf, rfl, hcf, hff⟩ := hN.facs (fun j _ => HFU.out j)
   have HNu := hid hN
   have HFF := hid hff
   have HW2 := hid h2
   clear d0 d1 d2 d3 d4 z0 z1 hN hff h2
   obtain ⟨d0, d1, d2, d3, d4, z0, z1⟩ := HT.out _ HW2.out
   go_upto_region 4 with fail
   have hd : Old W w2.drew := HW2.out.drew
   go_region_held3 (fun w' => w'.cell? ⟨w.heap.size, 0, none⟩ = some (.int .u64 P) /\ w'.cell? ⟨w.heap.size, 1, none⟩ = some (.int .u64 Q) /\ w'.cell? ⟨w.heap.size, 2, none⟩ = some (.int .u64 G) /\ w'.cell? ⟨w.heap.size, 3, none⟩ = some (.int .u64 H) /\ w'.cell? ⟨w.heap.size, 4, none⟩ = some (.slice a n cap) /\ w'.cell? ⟨w.heap.size + 1, 0, none⟩ = some (.slice bt nt ct) /\ w'.cell? ⟨w.heap.size + 1, 1, none⟩ = some (.slice bb nb cb)) (first | exact HT.out _ h5 | exact HT.out _ h4 | exact HT.out _ hd) (first
    | (go_at_call 135; refine (HCh.out _ _ _ (HW0.out.trans hd) (HFF.out.old (Old.refl _).drew)).mono ?_; rintro e w4 ⟨rfl, o4⟩; have h4 : Old W w4 := hd.trans o4)
    | (go_at_call 134; refine (HAn.out _ (HW0.out.trans h4)).mono ?_; rintro e w5 ⟨u, rfl, hNz, o5⟩; have h5 : Old W w5 := h4.trans o5))
   simp only [if_true] at hNz
   obtain ⟨bu, cu, rfl, hcu2, _⟩ := hNz.facs (fun j _ => HZU.out j)
   have HNz := hid (hNz.mono h4.size)
   have HNv := hid (HNu.out.old (((Old.refl w2).drew.trans o4).trans o5))
   have HW5 := hid h5
   clear d0 d1 d2 d3 d4 z0 z1 hNz
   have HR := HRS.out _ HW5.out
   have q0 : w5.cell? ⟨w.heap.size + 1 + 1, 0, none⟩ = some (.slice none 0 0) := Y0 HR
   have q1 : w5.cell? ⟨w.heap.size + 1 + 1, 1, none⟩ = some (.slice none 0 0) := Y1 HR
   have f0 : w5.frozen? ⟨w.heap.size + 1 + 1, 0, none⟩ = false := zac HR 0
   have f1 : w5.frozen? ⟨w.heap.size + 1 + 1, 1, none⟩ = false := zac HR 1
   have HRh := hid HR
   clear HR
   go_wp2_with fail
   refine bodyPost_ret (zay (b := w.heap.size + 1 + 1) rfl rfl rfl (zaW HRh.out U55 zbp)) rfl ?_
   refine zfl HN.out (Old.setCell (p := ⟨w.heap.size + 1 + 1, 1, none⟩) (Old.setCell (p := ⟨w.heap.size + 1 + 1, 0, none⟩) (HW0.out.trans HW5.out) (by show w.heap.size <= w.heap.size + 1 + 1; omega) _) (by show w.heap.size <= w.heap.size + 1 + 1; omega) _) ?_ ?_
   ·exact (ownsRow_setCell_below (ownsRow_setCell_below HNv.out (by show w.heap.size + 1 + 1 < W.heap.size; exact hs0) _) (by show w.heap.size + 1 + 1 < W.heap.size; exact hs0) _).mono HW0.out.size
   ·exact (ownsRow_setCell_below (ownsRow_setCell_below HNz.out (by show w.heap.size + 1 + 1 < W.heap.size; exact hs0) _) (by show w.heap.size + 1 + 1 < W.heap.size; exact hs0) _).mono HW0.out.size
  ·have HN : Hid (provB sz nw nd = false) := by unfold Hid provB; simp [hnn]
   have k1 : ¬ (nw : Int) = (nd : Int) := by omega
   have k4 : ((nw : Int) != (nd : Int)) = true := by simp; omega
   have k5 : ((nw : Int) == (nd : Int)) = false := by simp; omega
   clear hok
   go_enter func92, ntmps92
   go_upto_region 1 with fail
   have HW0 := hid HZ.old
   generalize hW : ((w.alloc (.cells (gc P Q G H a n cap) 25)).alloc (.cells (cc bt nt ct bb nb cb) 50)).alloc (.cells (cc none 0 0 none 0 0) 55) = W at *
   clear hW
   obtain ⟨d0, d1, d2, d3, d4, z0, z1⟩ := HT.out _ (Old.refl _)
   go_upto_region 2 with (go_at_call 133; refine (HIm.out _ HW0.out).mono ?_; rintro e w2 ⟨v, rfl, hN, h2⟩)
   clear d0 d1 d2 d3 d4 z0 z1 hN
   have HR := HRS.out _ h2
   have q0 : w2.cell? ⟨w.heap.size + 1 + 1, 0, none⟩ = some (.slice none 0 0) := Y0 HR
   have q1 : w2.cell? ⟨w.heap.size + 1 + 1, 1, none⟩ = some (.slice none 0 0) := Y1 HR
   have f0 : w2.frozen? ⟨w.heap.size + 1 + 1, 0, none⟩ = false := zac HR 0
   have f1 : w2.frozen? ⟨w.heap.size + 1 + 1, 1, none⟩ = false := zac HR 1
   have HRh := hid HR
   clear HR
   go_wp2_with fail
   exact bodyPost_ret (zay (b := w.heap.size + 1 + 1) rfl rfl rfl (zaW HRh.out U55 zbp)) rfl (zdc HN.out (Old.setCell (p := ⟨w.heap.size + 1 + 1, 1, none⟩) (Old.setCell (p := ⟨w.heap.size + 1 + 1, 0, none⟩) (HW0.out.trans h2) (by show w.heap.size <= w.heap.size + 1 + 1; omega) _) (by show w.heap.size <= w.heap.size + 1 + 1; omega) _))
end
section
open Go.RowKit
theorem u64_exF8 {Q X Y Z : Int} {n : Nat} {o : Nat -> Nat} {R S T : NI} {Rho : NN} (hQ : 0 < Q) (hQ1 : Q <= 18446744073709551615) (k : Nat) : U64 (exF Q X Y Z n o R S T Rho k) := by
 have hm : ∀ a : Int, U64 (a % Q) := fun a => ⟨Int.emod_nonneg _ (by omega), by have := Int.emod_lt_of_pos a hQ; omega⟩
 have hv : ∀ i, U64 (vE Q X Y Z o R S T i) := fun i => by
  cases i with
  | zero => exact zba _ _ _
  | succ i => exact zba _ _ _
 have hw : ∀ w i, U64 (rhoE Q X o Rho w i) := fun w i => by
  cases i with
  | zero => exact (show U64 0 from ⟨by decide, by decide⟩)
  | succ i => exact zcQ _ _ _
 unfold exF
 split
 ·exact hm _
 split
 ·exact hm _
 split
 ·exact zbi _ _ _
 split
 ·exact hm _
 split
 ·exact zcQ _ _ _
 split
 ·exact zba _ _ _
 split
 ·exact hm _
 split
 ·exact hv _
 ·exact hw _ _
theorem zbE {P : Int} {F G : NI} : ∀ n, (∀ i, i < n -> F i = G i) -> prodI P F n = prodI P G n
 | 0, _ => rfl
 | n + 1, h => by
  show mulI (prodI P F n) (F n) P = mulI (prodI P G n) (G n) P
  rw [zbE n fun i hi => h i (by omega), h n (by omega)]
theorem imI_congr8 {P Q : Int} {B B' X X' : NI} {n : Nat} (hB : ∀ k, k < n -> B k = B' k) (hX : ∀ k, k < n -> X k = X' k) : imI P Q B X n = imI P Q B' X' n := by
 unfold imI
 exact zbE n fun k hk => by rw [hB k hk, hX k hk]
theorem uvI_congr {P Q X : Int} {n : Nat} {Ui Vi Ui' Vi' : NN} (hU : ∀ j, j < n -> ∀ w, w < 3 -> Ui j w = Ui' j w) (hV : ∀ j, j < n -> ∀ w, w < 3 -> Vi j w = Vi' j w) {e : Nat} (he : e < 6) : uvI P Q X n Ui Vi e = uvI P Q X n Ui' Vi' e := by
 unfold uvI
 split
 ·exact zbE n fun j hj => by rw [hU j hj _ (by omega)]
 ·exact zbE n fun j hj => by rw [hV j hj _ (by omega)]
theorem tgtT_congr {P Q G X Y Z : Int} {n : Nat} {A B Pp : NI} {Ui Vi Ui' Vi' : NN} (hU : ∀ j, j < n -> ∀ w, w < 3 -> Ui j w = Ui' j w) (hV : ∀ j, j < n -> ∀ w, w < 3 -> Vi j w = Vi' j w) {j : Nat} (hj : j < 4 * n + 6) : tgtT P Q G X Y Z n A B Pp Ui Vi j = tgtT P Q G X Y Z n A B Pp Ui' Vi' j := by
 unfold tgtT tgt8
 split
 ·rfl
 split
 ·rfl
 split
 ·rfl
 split
 ·rfl
 split
 ·rfl
 ·exact uvI_congr hU hV (by omega)
theorem zd2 {m n q : Nat} {W W' : NI} {z : Int} (h : ∀ i, i < n -> W i = W' i) : rowS8 m n W q z = rowS8 m n W' q z := by
 funext k
 unfold rowS8
 split
 ·exact h _ (by omega)
 ·rfl
theorem bas8_congr {n : Nat} {Pp : NI} {G H y : Int} {Uo Vo Uo' Vo' : NN} (hU : ∀ j, j < n -> ∀ w, w < 3 -> Uo j w = Uo' j w) (hV : ∀ j, j < n -> ∀ w, w < 3 -> Vo j w = Vo' j w) {j : Nat} (hj : j < 4 * n + 6) : bas8 n Pp G H y Uo Vo j = bas8 n Pp G H y Uo' Vo' j := by
 unfold bas8
 split
 ·rfl
 split
 ·rfl
 split
 ·rfl
 split
 ·rfl
 split
 ·rfl
 split
 ·exact zd2 fun i hi => hU i hi _ (by omega)
 ·exact zd2 fun i hi => hV i hi _ (by omega)
theorem zfi {Q X : Int} {o : Nat -> Nat} {R R' : NN} {w n : Nat} (h : ∀ i, i < n -> R i w = R' i w) : ∀ i, i <= n -> rhoE Q X o R w i = rhoE Q X o R' w i
 | 0, _ => rfl
 | i + 1, hi => by
  show subI (rhoE Q X o R w i) (mulI (bE Q X o i) (R i w) Q) Q = subI (rhoE Q X o R' w i) (mulI (bE Q X o i) (R' i w) Q) Q
  rw [zfi h i (by omega), h i (by omega)]
theorem exF_congr {Q X Y Z : Int} {n : Nat} {o : Nat -> Nat} {R S T : NI} {Rho Rho' : NN} (h : ∀ i, i < n -> ∀ w, w < 3 -> Rho i w = Rho' i w) {k : Nat} (hk : k < 7 * n + 3) : exF Q X Y Z n o R S T Rho k = exF Q X Y Z n o R S T Rho' k := by
 unfold exF
 split
 ·rfl
 split
 ·rfl
 split
 ·rfl
 split
 ·rfl
 split
 ·rfl
 split
 ·rfl
 split
 ·rfl
 split
 ·rfl
 ·exact zfi (fun i hi => h i hi _ (by omega)) n (Nat.le_refl n)
structure Mix8 (P Q G H y : Int) (n : Nat) (C : NN) (O : NI) (Rh : NN) (R S T : NI) : Prop where
 gr : Righ P Q G
 hin : inI P Q H = true
 yin : inI P Q y = true
 n1 : 0 < n
 n8 : n <= 8
 ord : OrdP n O
 cin : ∀ j, j < n -> ∀ k, k < 6 -> inI P Q (C j k) = true
 r0 : ∀ i, i < n -> 0 <= R i
 s0 : ∀ i, i < n -> 0 <= S i
 t0 : ∀ i, i < n -> 0 <= T i
 w0 : ∀ i, i < n -> ∀ k, k < 3 -> 0 <= Rh i k
abbrev aF (P Q G H : Int) (O R : NI) : Nat -> Int := fun i => comI P Q G H (O i + 1) (R i)
abbrev bF (P Q G H X : Int) (O S : NI) : Nat -> Int := fun i => comI P Q G H (powI X (O i + 1) Q) (S i)
abbrev pF (P Q G H X Y Z : Int) (O R S T : NI) : Nat -> Int := thiI P Q G H X Y Z (aF P Q G H O R) (bF P Q G H X O S) O T
abbrev uC (C : NN) : Nat -> Nat -> Int := fun j w => C j (2 * w)
abbrev vC (C : NN) : Nat -> Nat -> Int := fun j w => C j (2 * w + 1)
section
variable {P Q G H y : Int} {n : Nat} {C : NN} {O : NI} {Rh : NN} {R S T : NI}
theorem Mix8.mixd (m : Mix8 P Q G H y n C O Rh R S T) (X : Int) {Y Z : Int} (hY : 0 <= Y) (hZ : 0 <= Z) :
  Mixd P Q G H X Y Z y n (fun i => (O i).toNat) R S T (fun i w => Rh i (min w 2)) (aF P Q G H O R) (bF P Q G H X O S) (pF P Q G H X Y Z O R S T) (uB C) (vB C) (uB (mixC P Q G y C O Rh)) (vB (mixC P Q G y C O Rh)) := by
 have hc : ∀ i, i < n -> (((O i).toNat : Nat) : Int) = O i := fun i hi => m.ord.cast hi
 refine ⟨m.gr, m.hin, m.yin, m.ord.ord, m.n1, hY, hZ, m.r0, m.s0, m.t0, fun i hi w => m.w0 i hi _ (by omega), fun i hi => by rw [hc i hi], fun i hi => ?_, rfl, fun i hi => ?_, fun j hj w => m.cin j hj _ (by omega), fun j hj w => m.cin j hj _ (by omega), fun i hi w => ?_, fun i hi w => ?_⟩
 ·unfold bE; rw [hc i hi]
 ·show mulI (expI P Q _ (facI Q X Y Z (O (i + 1) + 1))) _ P = _
  unfold dE bE facI
  rw [hc (i + 1) hi]
 ·unfold uB mixC
  rw [if_pos (by omega), show 2 * min w 2 / 2 = min w 2 by omega]
 ·unfold vB mixC
  rw [if_neg (by omega), show (2 * min w 2 + 1) / 2 = min w 2 by omega]
theorem uB_is {C : NN} (j w : Nat) (hw : w < 3) : uB C j w = uC C j w := by unfold uB; rw [show min w 2 = w by omega]
theorem vB_is {C : NN} (j w : Nat) (hw : w < 3) : vB C j w = vC C j w := by unfold vB; rw [show min w 2 = w by omega]
theorem Mix8.elms (m : Mix8 P Q G H y n C O Rh R S T) (X : Int) {Y Z : Int} (hY : 0 <= Y) (hZ : 0 <= Z) :
  Elms P Q G H y n (aF P Q G H O R) (bF P Q G H X O S) (pF P Q G H X Y Z O R S T) (uC C) (vC C) (uC (mixC P Q G y C O Rh)) (vC (mixC P Q G y C O Rh)) := by
 have e := (m.mixd X hY hZ).elms m.n8
 exact ⟨e.gr, e.hin, e.yin, e.n1, e.n8, e.a, e.b, e.p, fun j hj w hw => by rw [<- uB_is j w hw]; exact e.ui j hj w hw, fun j hj w hw => by rw [<- vB_is j w hw]; exact e.vi j hj w hw, fun j hj w hw => by rw [<- uB_is j w hw]; exact e.uo j hj w hw, fun j hj w hw => by rw [<- vB_is j w hw]; exact e.vo j hj w hw⟩
theorem Mix8.outs (m : Mix8 P Q G H y n C O Rh R S T) : ∀ j, j < n -> ∀ k, k < 6 -> inI P Q (mixC P Q G y C O Rh j k) = true := fun j hj k hk => by
 have e := m.elms 0 (Int.le_refl 0) (Int.le_refl 0)
 by_cases h : k % 2 = 0
 ·have := e.uo j hj (k / 2) (by omega)
  unfold uC at this
  rwa [show 2 * (k / 2) = k by omega] at this
 ·have := e.vo j hj (k / 2) (by omega)
  unfold vC at this
  rwa [show 2 * (k / 2) + 1 = k by omega] at this
theorem Mix8.clm (m : Mix8 P Q G H y n C O Rh R S T) (X : Int) {Y Z : Int} (hY : 0 <= Y) (hZ : 0 <= Z) :
  clmB P Q G y n C n (mixC P Q G y C O Rh) n (aF P Q G H O R) n (bF P Q G H X O S) n (pF P Q G H X Y Z O R S T) Y Z = true := by
 have e := m.elms X hY hZ
 have h1 := m.n1
 unfold clmB
 rw [Bool.and_eq_true_iff, Bool.and_eq_true_iff]
 exact ⟨zcB.2 ⟨⟨h1, m.n8⟩, rfl, rfl, rfl, rfl⟩, eltB_iff.2 ⟨m.yin, zaM.2 ⟨⟨h1, m.n8⟩, m.cin⟩, zaM.2 ⟨⟨h1, m.n8⟩, m.outs⟩, zaZ.2 e.a, zaZ.2 e.b, zaZ.2 e.p⟩, decide_eq_true rfl⟩
theorem Mix8.claim (m : Mix8 P Q G H y n C O Rh R S T) (X : Int) {Y Z : Int} (hY : 0 <= Y) (hZ : 0 <= Z) :
  IsClaim P Q (4 * n + 6) (tgtT P Q G X Y Z n (aF P Q G H O R) (bF P Q G H X O S) (pF P Q G H X Y Z O R S T) (uC C) (vC C)) (4 * n + 6) (fun _ => 7 * n + 3) (bas8 n (pF P Q G H X Y Z O R S T) G H y (uC (mixC P Q G y C O Rh)) (vC (mixC P Q G y C O Rh))) (7 * n + 3) := (m.elms X hY hZ).claim X Y Z
theorem Mix8.prov (m : Mix8 P Q G H y n C O Rh R S T) (X : Int) {Y Z : Int} (hY : 0 <= Y) (hZ : 0 <= Z) {nD : Nat} (hD : nD = 7 * n + 3) :
  provB (sizeN P Q (4 * n + 6) (tgtT P Q G X Y Z n (aF P Q G H O R) (bF P Q G H X O S) (pF P Q G H X Y Z O R S T) (uC C) (vC C)) (4 * n + 6) (fun _ => 7 * n + 3) (bas8 n (pF P Q G H X Y Z O R S T) G H y (uC (mixC P Q G y C O Rh)) (vC (mixC P Q G y C O Rh)))) (7 * n + 3) nD = true := by
 rw [(m.claim X hY hZ).size, hD]
 unfold provB
 rw [Bool.and_eq_true_iff]
 exact ⟨za2.2 ⟨by omega, rfl⟩, decide_eq_true rfl⟩
theorem Mix8.im (m : Mix8 P Q G H y n C O Rh R S T) (X : Int) {Y Z : Int} (hY : 0 <= Y) (hZ : 0 <= Z) {j : Nat} (hj : j < 4 * n + 6) :
  imI P Q (bas8 n (pF P Q G H X Y Z O R S T) G H y (uC (mixC P Q G y C O Rh)) (vC (mixC P Q G y C O Rh)) j) (exF Q X Y Z n (fun i => (O i).toNat) R S T Rh) (7 * n + 3) = tgtT P Q G X Y Z n (aF P Q G H O R) (bF P Q G H X O S) (pF P Q G H X Y Z O R S T) (uC C) (vC C) j := by
 have h := (m.mixd X hY hZ).holds hj
 rw [tgtT_congr (fun j _ w hw => uB_is j w hw) (fun j _ w hw => vB_is j w hw) hj, bas8_congr (fun j _ w hw => uB_is j w hw) (fun j _ w hw => vB_is j w hw) hj] at h
 rw [<- h]
 exact imI_congr8 (fun _ _ => rfl) fun k hk => exF_congr (fun i _ w hw => by rw [show min w 2 = w by omega]) hk
theorem Mix8.acc (m : Mix8 P Q G H y n C O Rh R S T) (X : Int) {Y Z ch : Int} (hY : 0 <= Y) (hZ : 0 <= Z) (hch : 0 <= ch) {D : NI} (hD : ∀ k, k < 7 * n + 3 -> 0 <= D k) :
  accB P Q (4 * n + 6) (tgtT P Q G X Y Z n (aF P Q G H O R) (bF P Q G H X O S) (pF P Q G H X Y Z O R S T) (uC C) (vC C)) (4 * n + 6) (fun _ => 7 * n + 3) (bas8 n (pF P Q G H X Y Z O R S T) G H y (uC (mixC P Q G y C O Rh)) (vC (mixC P Q G y C O Rh))) (4 * n + 6) (fun j => imI P Q (bas8 n (pF P Q G H X Y Z O R S T) G H y (uC (mixC P Q G y C O Rh)) (vC (mixC P Q G y C O Rh)) j) D (7 * n + 3)) ch (7 * n + 3) (fun k => ansI Q ch (exF Q X Y Z n (fun i => (O i).toNat) R S T Rh k) (D k)) = true := by
 have hc := m.claim X hY hZ
 refine zdW.2 ⟨by rw [hc.size]; exact za2.2 ⟨by omega, rfl⟩, rfl, fun j hj => ⟨m.gr.im_in _ (hc.bin j hj), ?_⟩⟩
 rw [hc.size, <- m.im X hY hZ hj]
 exact m.gr.im_ans _ (hc.bin j hj) (fun k _ => zdI m.gr.q1' k) hD hch
end
end
section
open Go Go.RowKit
structure OldT (T : TypeId) (w w' : World) : Prop where
 os : w'.os = w.os
 output : w'.output = w.output
 size : w.heap.size <= w'.heap.size
 block : ∀ k, k < w.heap.size -> w'.heap[k]? = w.heap[k]? ∨ ∃ cs cs', w.heap[k]? = some (.cells cs T (0, 0)) /\ w'.heap[k]? = some (.cells cs' T (0, 0)) /\ cs'.size = cs.size
theorem OldT.of {T : TypeId} {w w' : World} (h : Old w w') : OldT T w w' := ⟨h.os, h.output, h.size, fun k hk => Or.inl (h.block k hk)⟩
instance (T : TypeId) : OldR (OldT T) := ⟨fun _ _ h => .of h⟩
theorem zc2 (w : World) (g : Nat) (cells cs : Array Value) (T : TypeId) (h : w.heap[g]? = some (.cells cs T (0, 0))) : (w.setRow g cells).heap[g]? = some (.cells cells T (0, 0)) := by
 have hlt := (Array.getElem?_eq_some_iff.1 h).1
 simp [World.setRow, Array.getElem?_modify, h]
theorem zeM (w : World) (g : Nat) (cells : Array Value) {k : Nat} (h : k ≠ g) : (w.setRow g cells).heap[k]? = w.heap[k]? := by
 simp [World.setRow, Array.getElem?_modify, Ne.symm h]
theorem OldT.setRow {T : TypeId} {w : World} {g : Nat} {cells cs : Array Value} (h : w.heap[g]? = some (.cells cs T (0, 0))) (hs : cells.size = cs.size) : OldT T w (w.setRow g cells) :=
 ⟨rfl, rfl, by rw [size_setRow]; exact Nat.le_refl _, fun k hk => by
  by_cases hk2 : k = g
  ·subst hk2
   exact Or.inr ⟨cs, cells, h, zc2 _ _ _ _ _ h, hs⟩
  ·exact Or.inl (zeM _ _ _ hk2)⟩
theorem Nums.oldT {T : TypeId} (ht : T ≠ 22) {w w' : World} {base k : Nat} {v : Value} {F : NI} (h : Nums w base v k F) (ho : OldT T w w') : Nums w' base v k F := by
 refine ⟨h.1, ?_⟩
 rcases h.2 with hn | ⟨g, cap, cur, hv, hb, hg, rest⟩
 ·exact Or.inl hn
 ·refine Or.inr ⟨g, cap, cur, hv, hb, ?_, rest⟩
  rcases ho.block g (Array.getElem?_eq_some_iff.1 hg).1 with h2 | ⟨cs, cs', h2, _⟩
  ·exact h2.trans hg
  ·rw [hg] at h2
   cases h2
   exact absurd rfl ht
theorem BoxF.oldT {T : TypeId} (ht : T ≠ 74) {w w' : World} {a : OA} {n : Nat} {C : NN} (h : BoxF w a n C) (ho : OldT T w w') : BoxF w' a n C := by
 rcases h with h | ⟨b, ds, rfl, hb, hr⟩
 ·exact Or.inl h
 ·refine Or.inr ⟨b, ds, rfl, ?_, hr⟩
  rcases ho.block b (Array.getElem?_eq_some_iff.1 hb).1 with h2 | ⟨cs, cs', h2, _⟩
  ·exact h2.trans hb
  ·rw [hb] at h2
   cases h2
   exact absurd rfl ht
def numE {T : TypeId} (ht : T ≠ 22) (base n : Nat) (F : NI) : Ent2 (OldT T) := .u (fun v w => Nums w base v n F) fun _ _ _ h ho => h.oldT ht ho
def varE (T : TypeId) (n B : Nat) : Ent2 (OldT T) := .u (fun v w => ∃ b, v = .pointer (some ⟨b, 0, none⟩) /\ B <= b /\ ∃ cs, w.heap[b]? = some (.cells cs T (0, 0)) /\ cs.size = n) fun _ _ _ ⟨b, e, hb, cs, h, hs⟩ ho => ⟨b, e, hb, by
 rcases ho.block b (Array.getElem?_eq_some_iff.1 h).1 with h2 | ⟨ds, ds', h2, h3, h4⟩
 ·exact ⟨cs, h2.trans h, hs⟩
 ·rw [h] at h2
  cases h2
  exact ⟨ds', h3, h4.trans hs⟩⟩
def putE (T : TypeId) (i j B : Nat) : Ent2 (OldT T) := .d [i, j] (fun l _ w => ∃ b cs, l = [.pointer (some ⟨b, 0, none⟩), .agg cs] /\ B <= b /\ w.heap[b]? = some (.cells cs T (0, 0))) fun _ _ _ _ ⟨b, cs, e, hb, h⟩ ho => ⟨b, cs, e, hb, (ho.block b (Array.getElem?_eq_some_iff.1 h).1).trans h⟩
theorem zaR {P : Program} {ev : Operand -> Value} {dst : Option Tmp} {x : Operand} {i : Nat} {ty : TypeId} {pos : String} {after : Array Edge} {guard : Option (Nat × Bool)} {cs : Array Value} {v : Value} {w : World} (hx : ev x = .tuple cs) (hv : cs[i]? = some v) : (execOp ev ⟨dst, .extract x i, ty, pos, after, guard⟩).run P w = .ok (.value v) w := by
 simp [execOp, hx, hv, go_sem]
section
variable {T : TypeId} {P : Program} {ops : List Oper} {L0 : List Value} {E : List (Ent2 (OldT T))} {R : World -> Prop} {i : Nat}
theorem stPy {dst : Option Tmp} {ty : TypeId} {pos : String} {after : Array Edge} {guard : Option (Nat × Bool)} {x y : Operand} {a b B n : Nat} (cs : (Nat -> Value) -> Array Value -> Prop) (hR : ∀ w g cells, R w -> B <= g -> R (w.setRow g cells)) (h : ∀ (t : Nat -> Value) (wx : World), R wx -> (∀ k, needs ⟨dst, .store T x y, ty, pos, after, guard⟩ k = true -> okAt2 E k t wx) -> ∃ g c old, t a = .pointer (some ⟨g, 0, none⟩) /\ t b = .agg c /\ B <= g /\ wx.heap[g]? = some (.cells old T (0, 0)) /\ old.size = n /\ c.size = n /\ c.all (·.oneCell') = true) (hi : (P.info? T).map (·.size) = some n := by kernel_rfl) (ho : onlyD E i = true := by kernel_rfl) (hg : zaK E ⟨dst, .store T x y, ty, pos, after, guard⟩ = some true := by rfl) (hx : ∀ t, Act.eval ⟨(fill2 ops E t 0 L0).toArray, []⟩ x = t a := by intro _; kernel_rfl) (hy : ∀ t, Act.eval ⟨(fill2 ops E t 0 L0).toArray, []⟩ y = t b := by intro _; kernel_rfl) : StepT2 P ops L0 E R i ⟨dst, .store T x y, ty, pos, after, guard⟩ (putE T a b B) :=
 stgy (fun t wx hRx hd => by
  obtain ⟨g, c, old, ea, eb, hB, hrow, hs, hc, hone⟩ := h t wx hRx hd
  simp only [execOp, hx t, hy t, ea, eb, Instr.storeAt, Instr.sureAddr, Sem.run_bind, Sem.run_pure, Result.andThen_ok, run_storeVar_row wx g T T old c hrow (hi.trans (by rw [hc])) (hs.trans hc.symm) hone]
  exact ⟨hR _ _ _ hRx hB, Or.inr ⟨.setRow hrow (hc.trans hs.symm), ho⟩, g, c, by rw [<- ea, <- eb]; rfl, hB, zc2 _ _ _ _ _ hrow⟩) hg
theorem OldT.trans {a b c : World} (h : OldT T a b) (k : OldT T b c) : OldT T a c :=
 ⟨k.os.trans h.os, k.output.trans h.output, Nat.le_trans h.size k.size, fun i hi => by
  rcases k.block i (Nat.lt_of_lt_of_le hi h.size) with h2 | ⟨ds, ds', h2, h3, h4⟩
  ·rw [h2]; exact h.block i hi
  ·rcases h.block i hi with h5 | ⟨cs, cs', h5, h6, h7⟩
   ·exact Or.inr ⟨ds, ds', h5.symm.trans h2, h3, h4⟩
   ·rw [h2] at h6
    cases h6
    exact Or.inr ⟨cs, ds', h5, h3, h4.trans h7⟩⟩
theorem OldT.row {S : TypeId} (ht : T ≠ S) {w w' : World} {b : Nat} {cs : Array Value} (ho : OldT T w w') (h : w.heap[b]? = some (.cells cs S (0, 0))) : w'.heap[b]? = some (.cells cs S (0, 0)) := by
 rcases ho.block b (Array.getElem?_eq_some_iff.1 h).1 with h2 | ⟨ds, ds', h2, _⟩
 ·exact h2.trans h
 ·rw [h] at h2
  cases h2
  exact absurd rfl ht
theorem OldT.kind {w w' : World} {b n : Nat} (ho : OldT T w w') (h : ∃ cs, w.heap[b]? = some (.cells cs T (0, 0)) /\ cs.size = n) : ∃ cs, w'.heap[b]? = some (.cells cs T (0, 0)) /\ cs.size = n := by
 obtain ⟨cs, h, hs⟩ := h
 rcases ho.block b (Array.getElem?_eq_some_iff.1 h).1 with h2 | ⟨ds, ds', h2, h3, h4⟩
 ·exact ⟨cs, h2.trans h, hs⟩
 ·rw [h] at h2
  cases h2
  exact ⟨ds', h3, h4.trans hs⟩
def rowE (T : TypeId) (g : Nat) (c : Array Value) : Ent2 (OldT T) := .d [] (fun _ _ w => w.heap[g]? = some (.cells c T (0, 0))) fun _ _ _ _ h ho => (ho.block _ (Array.getElem?_eq_some_iff.1 h).1).trans h
theorem stQy {dst : Option Tmp} {ty : TypeId} {pos : String} {after : Array Edge} {guard : Option (Nat × Bool)} {x y : Operand} {g n : Nat} {c : Array Value} (hR : ∀ w, R w -> R (w.setRow g c)) (hrow : ∀ w, R w -> ∃ old, w.heap[g]? = some (.cells old T (0, 0)) /\ old.size = n) (hc : c.size = n := by rfl) (hone : c.all (·.oneCell') = true := by simp [Value.oneCell']) (hi : (P.info? T).map (·.size) = some n := by kernel_rfl) (ho : onlyD E i = true := by kernel_rfl) (hg : zaK E ⟨dst, .store T x y, ty, pos, after, guard⟩ = some true := by rfl) (hx : ∀ t, Act.eval ⟨(fill2 ops E t 0 L0).toArray, []⟩ x = .pointer (some ⟨g, 0, none⟩) := by intro _; kernel_rfl) (hy : ∀ t, Act.eval ⟨(fill2 ops E t 0 L0).toArray, []⟩ y = .agg c := by intro _; kernel_rfl) : StepT2 P ops L0 E R i ⟨dst, .store T x y, ty, pos, after, guard⟩ (rowE T g c) :=
 stgy (fun t wx hRx hd => by
  obtain ⟨old, hrow, hs⟩ := hrow wx hRx
  simp only [execOp, hx t, hy t, Instr.storeAt, Instr.sureAddr, Sem.run_bind, Sem.run_pure, Result.andThen_ok, run_storeVar_row wx g T T old c hrow (hi.trans (by rw [hc])) (hs.trans hc.symm) hone]
  exact ⟨hR _ hRx, Or.inr ⟨.setRow hrow (hc.trans hs.symm), ho⟩, zc2 _ _ _ _ _ hrow⟩) hg
end
end
section
open Go.RowKit
set_option linter.unusedSimpArgs false in
theorem pprove_any (label : List Int) (P Q G H : Int) (a : OA) (n cap : Nat) (bt : OA) (nt ct : Nat) (T : NI) (bb : OA) (nb cb : Nat) (BA : Nat -> Option Addr) (L C : Nat -> Nat) (B : NN) (bw : OA) (nw cw : Nat) (X : NI) (bd : OA) (nd cd : Nat) (Y F : NI) (hF : F = fun j => imI P Q (B j) Y (sizeN P Q nt T nb L B)) (w : World) (h4 : Four P Q G H) (hr : Righ P Q G) (hlb : Bts label) (hll : label.length <= 1000) (mt : nt <= 80) (mb : nb <= 80) (mL : ∀ j, j < nb -> L j <= 80) (mw : nw <= 80) (md : nd <= 80) (hcw : nw <= cw) (hcd : nd <= cd) (hC : ClaimIn w bt nt ct T bb nb cb BA L C B) (hX : FacsIn w bw nw X) (hY : FacsIn w bd nd Y) :
  Calls prog 90 #[gv P Q G H a n cap, .string (strOfNums label), cv bt nt ct bb nb cb, .slice bw nw cw, .slice bd nd cd] w (GivesP w (provB (sizeN P Q nt T nb L B) nw nd) nt F nw (fun k => ansI Q (chI label P Q G H nt T nb L B nt F) (X k) (Y k))) := by
 have HZ := lain3 w (gc P Q G H a n cap) (cc bt nt ct bb nb cb) (cc none 0 0 none 0 0) 25 50 55
 have HT : Hid (∀ w', Old (((w.alloc (.cells (gc P Q G H a n cap) 25)).alloc (.cells (cc bt nt ct bb nb cb) 50)).alloc (.cells (cc none 0 0 none 0 0) 55)) w' -> G6 w' (w.heap.size) P Q G H (.slice a n cap) (w'.cell? ⟨w.heap.size + 1, 0, none⟩ = some (.slice bt nt ct) /\ w'.cell? ⟨w.heap.size + 1, 1, none⟩ = some (.slice bb nb cb))) := fun w' ho => by
  have h := HZ.then ho
  exact ⟨h.cell 0 0 (by simp) rfl, h.cell 0 1 (by simp) rfl, h.cell 0 2 (by simp) rfl, h.cell 0 3 (by simp) rfl, h.cell 0 4 (by simp) rfl, h.cell 1 0 (by simp) rfl, h.cell 1 1 (by simp) rfl⟩
 have HRS := hid fun w' (ho : Old (((w.alloc (.cells (gc P Q G H a n cap) 25)).alloc (.cells (cc bt nt ct bb nb cb) 50)).alloc (.cells (cc none 0 0 none 0 0) 55)) w') => (HZ.then ho).row 2 (by simp)
 have HIm : Hid (∀ wx, Old w wx -> Calls prog 42 #[gv P Q G H a n cap, cv bt nt ct bb nb cb, .slice bd nd cd] wx (Gives wx (fitsB (sizeN P Q nt T nb L B) nd) nt F)) := fun wx ho => by rw [hF]; exact (ze2 P Q G H a n cap bt nt ct T bb nb cb BA L C B bd nd cd Y wx h4 hr (hC.old ho) (hY.old ho)).mono fun e w' h => h.gives (by omega)
 have HFU : Hid (∀ j, U64 (F j)) := fun j => by rw [hF]; exact zdm _ _ _
 have HCh := hid fun b c wx (ho : Old w wx) (hf : FacsIn wx b nt F) => pchal_any label P Q G H a n cap bt nt ct T bb nb cb BA L C B b nt c F wx h4 hlb hll mt mb mL mt (hC.old ho) hf
 have hcu := ch_u64 label P Q G H nt T nb L B nt F
 generalize chI label P Q G H nt T nb L B nt F = ch at *
 obtain ⟨Z, hZ⟩ : ∃ Z : Nat -> Int, Z = fun k => ansI Q ch (X k) (Y k) := ⟨_, rfl⟩
 rw [<- hZ]
 have HAn : Hid (∀ wx, Old w wx -> Calls prog 43 #[gv P Q G H a n cap, .slice bw nw cw, .slice bd nd cd, .int .u64 ch] wx (Gives wx (decide (nw = nd)) nw Z)) := fun wx ho => by rw [hZ]; exact lanswer_any P Q G H a n cap bw nw cw X bd nd cd Y ch wx h4 hr hcu mw md hcw hcd (hX.old ho) (hY.old ho)
 have HZU : Hid (∀ k, U64 (Z k)) := fun k => by rw [hZ]; exact zeH _ _ _ _
 clear hZ hF h4 hr hlb hll mL hC hX hY hcu mt mb mw md hcw hcd
 generalize sizeN P Q nt T nb L B = sz at *
 cases hok : fitsB sz nd with
 | false =>
  have HN : Hid (provB sz nw nd = false) := by unfold Hid provB; rw [hok]; rfl
  rw [hok] at HIm
  clear hok
  go_enter func90, ntmps90
  go_upto_region 1 with fail
  have HW0 := hid HZ.old
  generalize hW : ((w.alloc (.cells (gc P Q G H a n cap) 25)).alloc (.cells (cc bt nt ct bb nb cb) 50)).alloc (.cells (cc none 0 0 none 0 0) 55) = W at *
  clear hW
  obtain ⟨d0, d1, d2, d3, d4, z0, z1⟩ := HT.out _ (Old.refl _)
  go_upto_region 2 with (go_at_call 42; refine (HIm.out _ HW0.out).mono ?_; rintro e w2 ⟨v, rfl, hN, h2⟩)
  clear d0 d1 d2 d3 d4 z0 z1 hN
  have HR := HRS.out _ h2
  have q0 : w2.cell? ⟨w.heap.size + 1 + 1, 0, none⟩ = some (.slice none 0 0) := Y0 HR
  have q1 : w2.cell? ⟨w.heap.size + 1 + 1, 1, none⟩ = some (.slice none 0 0) := Y1 HR
  have f0 : w2.frozen? ⟨w.heap.size + 1 + 1, 0, none⟩ = false := zac HR 0
  have f1 : w2.frozen? ⟨w.heap.size + 1 + 1, 1, none⟩ = false := zac HR 1
  have HRh := hid HR
  clear HR
  go_wp2_with fail
  exact bodyPost_ret (zay (b := w.heap.size + 1 + 1) rfl rfl rfl (zaW HRh.out U55 zbp)) rfl (zdc HN.out (Old.setCell (p := ⟨w.heap.size + 1 + 1, 1, none⟩) (Old.setCell (p := ⟨w.heap.size + 1 + 1, 0, none⟩) (HW0.out.trans h2) (by show w.heap.size <= w.heap.size + 1 + 1; omega) _) (by show w.heap.size <= w.heap.size + 1 + 1; omega) _))
 | true =>
  rw [hok] at HIm
  by_cases hnn : nw = nd
  ·subst hnn
   have HN : Hid (provB sz nw nw = true) := by unfold Hid provB; rw [hok]; simp
   have k1 : decide (nw = nw) = true := by simp
   rw [k1] at HAn
   clear hok k1
   go_enter func90, ntmps90
   go_upto_region 1 with fail
   have HW0 := hid HZ.old
   have hs0 : w.heap.size + 1 + 1 < (((w.alloc (.cells (gc P Q G H a n cap) 25)).alloc (.cells (cc bt nt ct bb nb cb) 50)).alloc (.cells (cc none 0 0 none 0 0) 55)).heap.size := by simp
   generalize hW : ((w.alloc (.cells (gc P Q G H a n cap) 25)).alloc (.cells (cc bt nt ct bb nb cb) 50)).alloc (.cells (cc none 0 0 none 0 0) 55) = W at *
   clear hW
   obtain ⟨d0, d1, d2, d3, d4, z0, z1⟩ := HT.out _ (Old.refl _)
   go_upto_region 2 with (go_at_call 42; refine (HIm.out _ HW0.out).mono ?_; rintro e w2 ⟨v, rfl, hN, h2⟩)
   simp only [if_true] at hN
   obtain ⟨bf, cf, rfl, hcf, hff⟩ := hN.facs (fun j _ => HFU.out j)
   have HNu := hid hN
   have HFF := hid hff
   have HW2 := hid h2
   clear d0 d1 d2 d3 d4 z0 z1 hN hff h2
   obtain ⟨d0, d1, d2, d3, d4, z0, z1⟩ := HT.out _ HW2.out
   go_upto_region 4 with fail
   have hd : Old W w2.drew := HW2.out.drew
   go_region_held3 (fun w' => w'.cell? ⟨w.heap.size, 0, none⟩ = some (.int .u64 P) /\ w'.cell? ⟨w.heap.size, 1, none⟩ = some (.int .u64 Q) /\ w'.cell? ⟨w.heap.size, 2, none⟩ = some (.int .u64 G) /\ w'.cell? ⟨w.heap.size, 3, none⟩ = some (.int .u64 H) /\ w'.cell? ⟨w.heap.size, 4, none⟩ = some (.slice a n cap) /\ w'.cell? ⟨w.heap.size + 1, 0, none⟩ = some (.slice bt nt ct) /\ w'.cell? ⟨w.heap.size + 1, 1, none⟩ = some (.slice bb nb cb)) (first | exact HT.out _ h5 | exact HT.out _ h4 | exact HT.out _ hd) (first
    | (go_at_call 129; refine (HCh.out _ _ _ (HW0.out.trans hd) (HFF.out.old (Old.refl _).drew)).mono ?_; rintro e w4 ⟨rfl, o4⟩; have h4 : Old W w4 := hd.trans o4)
    | (go_at_call 43; refine (HAn.out _ (HW0.out.trans h4)).mono ?_; rintro e w5 ⟨u, rfl, hNz, o5⟩; have h5 : Old W w5 := h4.trans o5))
   simp only [if_true] at hNz
   obtain ⟨bu, cu, rfl, hcu2, _⟩ := hNz.facs (fun j _ => HZU.out j)
   have HNz := hid (hNz.mono h4.size)
   have HNv := hid (HNu.out.old (((Old.refl w2).drew.trans o4).trans o5))
   have HW5 := hid h5
   clear d0 d1 d2 d3 d4 z0 z1 hNz
   have HR := HRS.out _ HW5.out
   have q0 : w5.cell? ⟨w.heap.size + 1 + 1, 0, none⟩ = some (.slice none 0 0) := Y0 HR
   have q1 : w5.cell? ⟨w.heap.size + 1 + 1, 1, none⟩ = some (.slice none 0 0) := Y1 HR
   have f0 : w5.frozen? ⟨w.heap.size + 1 + 1, 0, none⟩ = false := zac HR 0
   have f1 : w5.frozen? ⟨w.heap.size + 1 + 1, 1, none⟩ = false := zac HR 1
   have HRh := hid HR
   clear HR
   go_wp2_with fail
   refine bodyPost_ret (zay (b := w.heap.size + 1 + 1) rfl rfl rfl (zaW HRh.out U55 zbp)) rfl ?_
   refine zfl HN.out (Old.setCell (p := ⟨w.heap.size + 1 + 1, 1, none⟩) (Old.setCell (p := ⟨w.heap.size + 1 + 1, 0, none⟩) (HW0.out.trans HW5.out) (by show w.heap.size <= w.heap.size + 1 + 1; omega) _) (by show w.heap.size <= w.heap.size + 1 + 1; omega) _) ?_ ?_
   ·exact (ownsRow_setCell_below (ownsRow_setCell_below HNv.out (by show w.heap.size + 1 + 1 < W.heap.size; exact hs0) _) (by show w.heap.size + 1 + 1 < W.heap.size; exact hs0) _).mono HW0.out.size
   ·exact (ownsRow_setCell_below (ownsRow_setCell_below HNz.out (by show w.heap.size + 1 + 1 < W.heap.size; exact hs0) _) (by show w.heap.size + 1 + 1 < W.heap.size; exact hs0) _).mono HW0.out.size
  ·have HN : Hid (provB sz nw nd = false) := by unfold Hid provB; simp [hnn]
   have k1 : decide (nw = nd) = false := decide_eq_false hnn
   rw [k1] at HAn
   clear hok k1
   go_enter func90, ntmps90
   go_upto_region 1 with fail
   have HW0 := hid HZ.old
   have hs0 : w.heap.size + 1 + 1 < (((w.alloc (.cells (gc P Q G H a n cap) 25)).alloc (.cells (cc bt nt ct bb nb cb) 50)).alloc (.cells (cc none 0 0 none 0 0) 55)).heap.size := by simp
   generalize hW : ((w.alloc (.cells (gc P Q G H a n cap) 25)).alloc (.cells (cc bt nt ct bb nb cb) 50)).alloc (.cells (cc none 0 0 none 0 0) 55) = W at *
   clear hW
   obtain ⟨d0, d1, d2, d3, d4, z0, z1⟩ := HT.out _ (Old.refl _)
   go_upto_region 2 with (go_at_call 42; refine (HIm.out _ HW0.out).mono ?_; rintro e w2 ⟨v, rfl, hN, h2⟩)
   simp only [if_true] at hN
   obtain ⟨bf, cf, rfl, hcf, hff⟩ := hN.facs (fun j _ => HFU.out j)
   have HNu := hid hN
   have HFF := hid hff
   have HW2 := hid h2
   clear d0 d1 d2 d3 d4 z0 z1 hN hff h2
   obtain ⟨d0, d1, d2, d3, d4, z0, z1⟩ := HT.out _ HW2.out
   go_upto_region 4 with fail
   have hd : Old W w2.drew := HW2.out.drew
   go_region_held3 (fun w' => w'.cell? ⟨w.heap.size, 0, none⟩ = some (.int .u64 P) /\ w'.cell? ⟨w.heap.size, 1, none⟩ = some (.int .u64 Q) /\ w'.cell? ⟨w.heap.size, 2, none⟩ = some (.int .u64 G) /\ w'.cell? ⟨w.heap.size, 3, none⟩ = some (.int .u64 H) /\ w'.cell? ⟨w.heap.size, 4, none⟩ = some (.slice a n cap) /\ w'.cell? ⟨w.heap.size + 1, 0, none⟩ = some (.slice bt nt ct) /\ w'.cell? ⟨w.heap.size + 1, 1, none⟩ = some (.slice bb nb cb)) (first | exact HT.out _ h5 | exact HT.out _ h4 | exact HT.out _ hd) (first
    | (go_at_call 129; refine (HCh.out _ _ _ (HW0.out.trans hd) (HFF.out.old (Old.refl _).drew)).mono ?_; rintro e w4 ⟨rfl, o4⟩; have h4 : Old W w4 := hd.trans o4)
    | (go_at_call 43; refine (HAn.out _ (HW0.out.trans h4)).mono ?_; rintro e w5 ⟨u, rfl, hNz, o5⟩; have h5 : Old W w5 := h4.trans o5))
   clear d0 d1 d2 d3 d4 z0 z1 hNz
   have HR := HRS.out _ h5
   have q0 : w5.cell? ⟨w.heap.size + 1 + 1, 0, none⟩ = some (.slice none 0 0) := Y0 HR
   have q1 : w5.cell? ⟨w.heap.size + 1 + 1, 1, none⟩ = some (.slice none 0 0) := Y1 HR
   have f0 : w5.frozen? ⟨w.heap.size + 1 + 1, 0, none⟩ = false := zac HR 0
   have f1 : w5.frozen? ⟨w.heap.size + 1 + 1, 1, none⟩ = false := zac HR 1
   have HRh := hid HR
   clear HR
   go_wp2_with fail
   exact bodyPost_ret (zay (b := w.heap.size + 1 + 1) rfl rfl rfl (zaW HRh.out U55 zbp)) rfl (zdc HN.out (Old.setCell (p := ⟨w.heap.size + 1 + 1, 1, none⟩) (Old.setCell (p := ⟨w.heap.size + 1 + 1, 0, none⟩) (HW0.out.trans h5) (by show w.heap.size <= w.heap.size + 1 + 1; omega) _) (by show w.heap.size <= w.heap.size + 1 + 1; omega) _))
end
end Go.Proofs.YtlnmjbbpenhdbaaGreat
