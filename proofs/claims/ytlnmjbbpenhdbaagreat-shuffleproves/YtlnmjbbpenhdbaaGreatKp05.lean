/-
  What the proof needs, part 5.
-/
import Derived.Test.YtlnmjbbpenhdbaaGreatKp04
import Derived.Deep.AppendLies
import Derived.WalkLawsBesides
namespace Go.Proofs.YtlnmjbbpenhdbaaGreat
open Tryz
open List renaming set_cons_zero → zs0, set_cons_succ → zs1, drop_nil → zdn
open Tryz renaming underlying5 → U5, underlying9 → U9, underlying29 → U29, underlying152 → U152, underlying169 → U169
set_option linter.unusedSimpArgs false
set_option linter.unusedVariables false
set_option maxRecDepth 100000
set_option maxHeartbeats 32000000
section
open Go.RowKit
def ListsIn (w : World) (a : OA) (n : Nat) (BA : Nat -> Option Addr) (L C : Nat -> Nat) (B : NN) : Prop :=
 n = 0 ∨ ∃ b off, a = some ⟨b, off, none⟩ /\ b < w.heap.size /\ ∀ j, j < n -> w.cell? ⟨b, off + j, none⟩ = some (.slice (BA j) (L j) (C j)) /\ L j <= C j /\ C j <= 9223372036854775807 /\ FacsIn w (BA j) (L j) (B j)
theorem ListsIn.old {w w' : World} {a : OA} {n : Nat} {BA : Nat -> Option Addr} {L C : Nat -> Nat} {B : NN} (h : ListsIn w a n BA L C B) (ho : Old w w') : ListsIn w' a n BA L C B := by
 rcases h with h | ⟨b, off, ha, hb, hr⟩
 ·exact Or.inl h
 ·exact Or.inr ⟨b, off, ha, Nat.lt_of_lt_of_le hb ho.size, fun j hj => ⟨ho.cellOf (hr j hj).1, (hr j hj).2.1, (hr j hj).2.2.1, (hr j hj).2.2.2.old ho⟩⟩
theorem ListsIn.facs {w : World} {a : OA} {n : Nat} {BA : Nat -> Option Addr} {L C : Nat -> Nat} {B : NN} (h : ListsIn w a n BA L C B) {j : Nat} (hj : j < n) : FacsIn w (BA j) (L j) (B j) := by
 rcases h with h | ⟨_, _, _, _, hr⟩
 ·omega
 ·exact (hr j hj).2.2.2
abbrev cv (bt : OA) (nt ct : Nat) (bb : OA) (nb cb : Nat) : Value := .agg #[.slice bt nt ct, .slice bb nb cb]
abbrev cc (bt : OA) (nt ct : Nat) (bb : OA) (nb cb : Nat) : Array Value := #[.slice bt nt ct, .slice bb nb cb]
structure ClaimIn (w : World) (bt : OA) (nt ct : Nat) (T : NI) (bb : OA) (nb cb : Nat) (BA : Nat -> Option Addr) (L C : Nat -> Nat) (B : NN) : Prop where
 tc : nt <= ct
 tm : ct <= 9223372036854775807
 bc : nb <= cb
 bm : cb <= 9223372036854775807
 tar : FacsIn w bt nt T
 bas : ListsIn w bb nb BA L C B
theorem ClaimIn.old {w w' : World} {bt : OA} {nt ct : Nat} {T : NI} {bb : OA} {nb cb : Nat} {BA : Nat -> Option Addr} {L C : Nat -> Nat} {B : NN} (h : ClaimIn w bt nt ct T bb nb cb BA L C B) (ho : Old w w') : ClaimIn w' bt nt ct T bb nb cb BA L C B :=
 ⟨h.tc, h.tm, h.bc, h.bm, h.tar.old ho, h.bas.old ho⟩
def rowsB (P Q : Int) (T : NI) (L : Nat -> Nat) (B : NN) (n k : Nat) : Bool :=
 (List.range k).all fun j => inI P Q (T j) && (decide (L j = n) && (List.range n).all fun i => inI P Q (B j i))
theorem zbg {P Q : Int} {T : NI} {L : Nat -> Nat} {B : NN} {n k : Nat} : rowsB P Q T L B n k = true ↔ ∀ j, j < k -> inI P Q (T j) = true /\ L j = n /\ ∀ i, i < n -> inI P Q (B j i) = true := by
 simp [rowsB]
def sizeN (P Q : Int) (nt : Nat) (T : NI) (nb : Nat) (L : Nat -> Nat) (B : NN) : Nat :=
 if 1 <= nt /\ nt <= 64 /\ nb = nt /\ 1 <= L 0 /\ L 0 <= 64 /\ rowsB P Q T L B (L 0) nt = true then L 0 else 0
structure IsClaim (P Q : Int) (nt : Nat) (T : NI) (nb : Nat) (L : Nat -> Nat) (B : NN) (n : Nat) : Prop where
 t1 : 1 <= nt
 t64 : nt <= 64
 nb : nb = nt
 n1 : 1 <= n
 n64 : n <= 64
 len : ∀ j, j < nt -> L j = n
 tin : ∀ j, j < nt -> inI P Q (T j) = true
 bin : ∀ j, j < nt -> ∀ i, i < n -> inI P Q (B j i) = true
theorem IsClaim.size {P Q : Int} {nt : Nat} {T : NI} {nb : Nat} {L : Nat -> Nat} {B : NN} {n : Nat} (h : IsClaim P Q nt T nb L B n) : sizeN P Q nt T nb L B = n := by
 have h0 := h.len 0 h.t1
 unfold sizeN
 rw [if_pos ⟨h.t1, h.t64, h.nb, by rw [h0]; exact h.n1, by rw [h0]; exact h.n64, by rw [h0]; exact zbg.2 fun j hj => ⟨h.tin j hj, h.len j hj, h.bin j hj⟩⟩, h0]
theorem zcY {P Q : Int} {nt : Nat} {T : NI} {nb : Nat} {L : Nat -> Nat} {B : NN} (h : sizeN P Q nt T nb L B ≠ 0) : IsClaim P Q nt T nb L B (sizeN P Q nt T nb L B) := by
 unfold sizeN at h ⊢
 split
 ·rename_i hc
  obtain ⟨h1, h2, h3, h4, h5, h6⟩ := hc
  have h7 := zbg.1 h6
  exact ⟨h1, h2, h3, h4, h5, fun j hj => (h7 j hj).2.1, fun j hj => (h7 j hj).1, fun j hj => (h7 j hj).2.2⟩
 ·rename_i hc
  rw [if_neg hc] at h
  exact absurd rfl h
theorem sizeN_le (P Q : Int) (nt : Nat) (T : NI) (nb : Nat) (L : Nat -> Nat) (B : NN) : sizeN P Q nt T nb L B <= 64 := by
 unfold sizeN
 split
 ·rename_i hc; exact hc.2.2.2.2.1
 ·omega
theorem zcb {P Q : Int} {nt : Nat} {T : NI} {nb : Nat} {L : Nat -> Nat} {B : NN} (h : ¬ (1 <= nt /\ nt <= 64 /\ nb = nt /\ 1 <= L 0 /\ L 0 <= 64 /\ rowsB P Q T L B (L 0) nt = true)) : sizeN P Q nt T nb L B = 0 := by
 unfold sizeN
 rw [if_neg h]
def sameB (n : Nat) (X : NI) (m : Nat) (Y : NI) : Bool := decide (n = m) && (List.range n).all fun i => X i == Y i
theorem zd3 {n m : Nat} {X Y : NI} : sameB n X m Y = true ↔ n = m /\ ∀ i, i < n -> X i = Y i := by
 simp [sameB]
def Gives (w : World) (ok : Bool) (k : Nat) (F : NI) (r : Ending) (w' : World) : Prop := ∃ v, r = .returned (.tuple #[v, .bool ok]) /\ Nums w' w.heap.size v (if ok then k else 0) F /\ Old w w'
theorem Nums.mono {w : World} {base base' k : Nat} {v : Value} {F : NI} (h : Nums w base v k F) (hb : base' <= base) : Nums w base' v k F := World.ownsRow.mono h hb
theorem zdg {w w' : World} {ok : Bool} {k : Nat} {F : NI} {v : Value} (hok : ok = true) (hN : Nums w' w.heap.size v k F) (ho : Old w w') : Gives w ok k F (.returned (.tuple #[v, .bool true])) w' := by
 subst hok
 exact ⟨v, rfl, by simpa using hN, ho⟩
theorem zdh {w w' : World} {ok : Bool} {k : Nat} {F : NI} (hok : ok = false) (ho : Old w w') : Gives w ok k F (.returned (.tuple #[.slice none 0 0, .bool false])) w' := by
 subst hok
 exact ⟨_, rfl, by simpa using zaD w' w.heap.size F, ho⟩
theorem zcd (b1 : OA) (n1 c1 : Nat) (X : NI) (b2 : OA) (n2 c2 : Nat) (Y : NI) (w : World) (m1 : n1 <= 9223372036854775807) (h1 : FacsIn w b1 n1 X) (h2 : FacsIn w b2 n2 Y) :
  Calls prog 19 #[.slice b1 n1 c1, .slice b2 n2 c2] w fun e w' => e = .returned (.bool (sameB n1 X n2 Y)) /\ Old w w' := by
 have HX : Hid (FacsIn w b1 n1 X) := h1
 have HY : Hid (FacsIn w b2 n2 Y) := h2
 clear h1 h2
 by_cases hn : n1 = n2
 ·subst hn
  go_enter func19, ntmps19
  go_wp2_with fail
  go_loopw [5] (fun iv wx => ∃ i : Nat, iv = .int .i64 (i : Int) /\ i <= n1 /\ Hid (Old w wx) /\ Hid (∀ j, j < i -> X j = Y j)) (fun iv _ => n1 - (intOf iv).toNat)
  case atStart => exact ⟨0, rfl, Nat.zero_le _, Old.refl _, fun j hj => by omega⟩
  case round =>
   obtain ⟨i, rfl, hi, HO, HJ⟩ := hrel
   by_cases hlt : i < n1
   ·rcases HX.out.old HO.out with h0 | ⟨bx, ox, hqx, _, hrx⟩
    ·omega
    rcases HY.out.old HO.out with h0 | ⟨by_, oy, hqy, _, hry⟩
    ·omega
    have cx := (hrx i hlt).1
    have cy := (hry i hlt).1
    clear hrx hry
    subst hqx hqy
    by_cases he : X i = Y i
    ·have HM : Hid (X i = Y i) := he
     rw [<- he] at cy
     clear he
     go_upto_region 6 with fail
     go_quiet (fail)
     go_wp2_with fail
     go_roundw
     case rel => exact ⟨i + 1, zab i, by omega, by first | exact HO.out | exact HO.out.drew | exact HO.out.drewN _, zav HJ.out HM.out⟩
     case measure => simp [intOf]; omega
    ·have HN : Hid (sameB n1 X n1 Y = false) := no_of fun hc => he ((zd3.1 hc).2 i hlt)
     go_upto_region 6 with fail
     go_quiet (fail)
     go_wp2_with fail
     go_ret
     exact ⟨zad HN.out.symm, by first | exact HO.out | exact HO.out.drew | exact HO.out.drewN _⟩
   ·have he : n1 = i := by omega
    subst he
    have HN : Hid (sameB n1 X n1 Y = true) := zd3.2 ⟨rfl, HJ.out⟩
    go_wp2_with fail
    go_ret
    exact ⟨zad HN.out.symm, HO.out⟩
 ·have HN : Hid (sameB n1 X n2 Y = false) := no_of fun hc => hn (zd3.1 hc).1
  have k1 : ¬ (n1 : Int) = (n2 : Int) := by omega
  go_enter func19, ntmps19
  go_wp2_with fail
  go_ret
  exact ⟨zad HN.out.symm, Old.refl _⟩
theorem ranswer_any (P Q G H : Int) (a : OA) (n cap : Nat) (b1 : OA) (n1 c1 : Nat) (X : NI) (b2 : OA) (n2 c2 : Nat) (Y : NI) (e : Int) (w : World) (he : U64 e) (m1 : n1 <= 80) (h1 : FacsIn w b1 n1 X) (h2 : FacsIn w b2 n2 Y) :
  Calls prog 134 #[gv P Q G H a n cap, .slice b1 n1 c1, .slice b2 n2 c2, .int .u64 e] w (Gives w (decide (n1 = n2)) n1 (fun k => ansI Q e (X k) (Y k))) := by
 have HX : Hid (FacsIn w b1 n1 X) := h1
 have HY : Hid (FacsIn w b2 n2 Y) := h2
 have HZ := lain1 w (gc P Q G H a n cap) 25
 by_cases hn : n1 = n2
 ·subst hn
  obtain ⟨M, hM⟩ : ∃ M : Nat -> Int, M = fun k => mulI e (X k) Q := ⟨_, rfl⟩
  obtain ⟨F, hF⟩ : ∃ F : Nat -> Int, F = fun k => ansI Q e (X k) (Y k) := ⟨_, rfl⟩
  have H1 : Hid (∀ i wx, i < n1 -> Calls prog 70 #[.int .u64 e, .int .u64 (X i), .int .u64 Q] wx fun r w' => r = .returned (.int .u64 (M i)) /\ Old wx w') := fun i wx hi => (zbo e (X i) Q wx he.1 he.2 (h1.u64 i hi).1 (h1.u64 i hi).2).mono fun r w' ⟨h, k⟩ => ⟨by rw [h, hM], (Old.refl _).draws k⟩
  have H2 : Hid (∀ i wx, i < n1 -> Calls prog 77 #[.int .u64 (Y i), .int .u64 (M i), .int .u64 Q] wx fun r w' => r = .returned (.int .u64 (F i)) /\ Old wx w') := fun i wx hi => (zdR (Y i) (M i) Q wx (h2.u64 i hi).1 (h2.u64 i hi).2 (by rw [hM]; exact (zaI _ _ _).1) (by rw [hM]; exact (zaI _ _ _).2)).mono fun r w' ⟨h, k⟩ => ⟨by rw [h, hF, hM]; rfl, (Old.refl _).draws k⟩
  rw [<- hF]
  clear hF hM he h1 h2
  obtain ⟨i0, hi, hz0, hz1, hz2⟩ := info_parts zbj
  go_enter func134, ntmps134
  go_upto_region 1 with fail
  generalize hW : w.alloc (.cells (gc P Q G H a n cap) 25) = W at *
  clear hW
  go_wp2_with fail
  go_loopw [10, 11] (fun v iv wx => ∃ i : Nat, iv = .int .i64 (i : Int) /\ i <= n1 /\ Hid (Nums wx W.heap.size v i F) /\ Hid (Old W wx)) (fun _ iv _ => n1 - (intOf iv).toNat)
  case atStart => exact ⟨0, rfl, Nat.zero_le _, zaD _ _ _, Old.refl _⟩
  case round =>
   obtain ⟨i, rfl, hi1, HN, HW⟩ := hrel
   by_cases hlt : i < n1
   ·rcases HX.out with h0 | ⟨bx, ox, hqx, _, hrx⟩
    ·omega
    rcases HY.out with h0 | ⟨by_, oy, hqy, _, hry⟩
    ·omega
    have HT : Hid (∀ w', Old W w' -> w'.cell? ⟨w.heap.size, 1, none⟩ = some (.int .u64 Q) /\ w'.cell? ⟨bx, ox + i, none⟩ = some (.int .u64 (X i)) /\ w'.cell? ⟨by_, oy + i, none⟩ = some (.int .u64 (Y i))) := fun w' ho => ⟨(HZ.then ho).cell 0 1 (by simp) rfl, (HZ.old.trans ho).cellOf (hrx i hlt).1, (HZ.old.trans ho).cellOf (hry i hlt).1⟩
    clear hrx hry
    subst hqx hqy
    obtain ⟨dq, cx, cy⟩ := HT.out _ HW.out
    have HM : Hid (∀ wx, Calls prog 70 #[.int .u64 e, .int .u64 (X i), .int .u64 Q] wx fun r w' => r = .returned (.int .u64 (M i)) /\ Old wx w') := fun wx => H1.out i wx hlt
    have HA : Hid (∀ wx, Calls prog 77 #[.int .u64 (Y i), .int .u64 (M i), .int .u64 Q] wx fun r w' => r = .returned (.int .u64 (F i)) /\ Old wx w') := fun wx => H2.out i wx hlt
    go_upto_region 7 with fail
    go_region_held3 (fun w' => w'.cell? ⟨w.heap.size, 1, none⟩ = some (.int .u64 Q) /\ w'.cell? ⟨bx, ox + i, none⟩ = some (.int .u64 (X i)) /\ w'.cell? ⟨by_, oy + i, none⟩ = some (.int .u64 (Y i))) (first | exact HT.out _ h6 | exact HT.out _ h5 | exact HT.out _ (h5.alloc _) | exact HT.out _ h4 | exact HT.out _ HW.out.drew) (first
     | (go_at_call 70; refine (HM.out _).mono ?_; rintro e w4 ⟨rfl, o4⟩; have h4 : Old W w4 := HW.out.drew.trans o4)
     | (go_at_call 77; refine (HA.out _).mono ?_; rintro e w5 ⟨rfl, o5⟩; have h5 : Old W w5 := h4.trans o5; have hown := HN.out.old (((Old.refl wr).drew.trans o4).trans o5); have hs5 := h5.size)
     | (refine step_append_lies _ rfl (.tmp 23) (.tmp 39) 29 rfl W.heap.size 22 i0 (.int .u64 0) 1 8 U29 hi hz0 hz1 hz2 rfl (by decide) _ _ _ rfl (World.ownsRow.alloc hown _) ⟨w5.heap.size, 0, none⟩ 1 1 [.int .u64 (F i)] rfl rfl (cell_one_new _ _ _) (by intro u hu; simp at hu; subst hu; rfl) (by decide) (by unfold maxLen; omega) (by omega) (by simp; omega) _ rfl ?_; intro g6 cap6 w6 hown6 hgrow6 _ _; have h6 : Old W w6 := Nums.grown hown h5 hgrow6))
    go_wp2_with fail
    go_roundw
    case rel => exact ⟨i + 1, zab i, by omega, Nums.app hown6 rfl, h6⟩
    case measure => simp [intOf]; omega
   ·have he : n1 = i := by omega
    subst he
    go_wp2_with fail
    go_ret2
    exact zdg (by simp) (HN.out.mono HZ.old.size) (HZ.old.trans HW.out)
 ·have k1 : ¬ (n1 : Int) = (n2 : Int) := by omega
  clear he h1 h2
  go_enter func134, ntmps134
  go_wp2_with fail
  go_ret2
  exact zdh (by simp [hn]) ((Old.refl _).alloc _)
set_option linter.unusedSimpArgs false in
theorem rsize_any (P Q G H : Int) (a : OA) (n cap : Nat) (bt : OA) (nt ct : Nat) (T : NI) (bb : OA) (nb cb : Nat) (BA : Nat -> Option Addr) (L C : Nat -> Nat) (B : NN) (w : World) (h4 : Four P Q G H) (hC : ClaimIn w bt nt ct T bb nb cb BA L C B) :
  Calls prog 150 #[gv P Q G H a n cap, cv bt nt ct bb nb cb] w fun e w' => e = .returned (.int .i64 (sizeN P Q nt T nb L B : Nat)) /\ Old w w' := by
 have HZ := lain2 w (gc P Q G H a n cap) (cc bt nt ct bb nb cb) 25 50
 have HF : Hid (∀ w', Lain w [(gc P Q G H a n cap, 25), (cc bt nt ct bb nb cb, 50)] w' -> G6 w' (w.heap.size) P Q G H (.slice a n cap) (w'.cell? ⟨w.heap.size + 1, 0, none⟩ = some (.slice bt nt ct) /\ w'.cell? ⟨w.heap.size + 1, 1, none⟩ = some (.slice bb nb cb))) := fun _ h => ⟨h.cell 0 0 (by simp) rfl, h.cell 0 1 (by simp) rfl, h.cell 0 2 (by simp) rfl, h.cell 0 3 (by simp) rfl, h.cell 0 4 (by simp) rfl, h.cell 1 0 (by simp) rfl, h.cell 1 1 (by simp) rfl⟩
 have HC : Hid (ClaimIn w bt nt ct T bb nb cb BA L C B) := hC
 have HI : Hid (∀ x wx, U64 x -> Calls prog 55 #[gv P Q G H a n cap, .int .u64 x] wx fun e w' => e = .returned (.bool (inI P Q x)) /\ Old wx w') := fun x wx hx => zdu P Q G H x a n cap wx h4.q0 h4.q1 hx.2
 clear hC h4
 by_cases hc : ¬ (1 <= nt /\ nt <= 64 /\ nb = nt)
 ·have HN : Hid (sizeN P Q nt T nb L B = 0) := zcb fun h => hc ⟨h.1, h.2.1, h.2.2.1⟩
  have HO : Hid (Old w ((w.alloc (.cells (gc P Q G H a n cap) 25)).alloc (.cells (cc bt nt ct bb nb cb) 50))) := ((Old.refl _).alloc _).alloc _
  rcases (show nt < 1 ∨ 64 < nt ∨ (1 <= nt /\ nt <= 64 /\ nb ≠ nt) by omega) with h1 | h1 | ⟨h1, h2, h3⟩
  ·have k1 : (nt : Int) < 1 := by omega
   clear hc
   go_enter func150, ntmps150
   go_wp2_with fail
   go_ret
   exact ⟨by rw [HN.out]; rfl, HO.out⟩
  ·have k1 : ¬ (nt : Int) < 1 := by omega
   have k2 : (64 : Int) < (nt : Int) := by omega
   clear hc
   go_enter func150, ntmps150
   go_wp2_with fail
   go_ret
   exact ⟨by rw [HN.out]; rfl, HO.out⟩
  ·have k1 : ¬ (nt : Int) < 1 := by omega
   have k2 : ¬ (64 : Int) < (nt : Int) := by omega
   have k3 : ¬ (nb : Int) = (nt : Int) := by omega
   clear hc
   go_enter func150, ntmps150
   go_wp2_with fail
   go_ret
   exact ⟨by rw [HN.out]; rfl, HO.out⟩
 obtain ⟨h1, h2, h3⟩ := Classical.not_not.1 hc
 clear hc
 subst h3
 rcases HC.out.tar with h0 | ⟨tb, tof, hqt, _, hrt⟩
 ·omega
 rcases HC.out.bas with h0 | ⟨lb, lo, hqb, _, hrb⟩
 ·omega
 subst hqt hqb
 have HRT : Hid (∀ j, j < nb -> ∀ w', Old w w' -> w'.cell? ⟨tb, tof + j, none⟩ = some (.int .u64 (T j))) := fun j hj w' ho => ho.cellOf (hrt j hj).1
 have HRB : Hid (∀ j, j < nb -> ∀ w', Old w w' -> w'.cell? ⟨lb, lo + j, none⟩ = some (.slice (BA j) (L j) (C j))) := fun j hj w' ho => ho.cellOf (hrb j hj).1
 have HRF : Hid (∀ j, j < nb -> FacsIn w (BA j) (L j) (B j)) := fun j hj => (hrb j hj).2.2.2
 have HTU : Hid (∀ j, j < nb -> U64 (T j)) := fun j hj => (hrt j hj).2
 clear hrt hrb
 obtain ⟨nn, hnn⟩ : ∃ nn : Nat, nn = L 0 := ⟨_, rfl⟩
 have k1 : ¬ (nb : Int) < 1 := by omega
 have k2 : ¬ (64 : Int) < (nb : Int) := by omega
 have k4 : (0 : Int) < (nb : Int) := by omega
 have k5 : 0 < nb := by omega
 go_enter func150, ntmps150
 go_upto_region 1 with fail
 generalize hW : (w.alloc (.cells (gc P Q G H a n cap) 25)).alloc (.cells (cc (some ⟨tb, tof, none⟩) nb ct (some ⟨lb, lo, none⟩) nb cb) 50) = W at *
 clear hW
 have HW0 : Hid (Old w W) := HZ.old
 obtain ⟨d0, d1, d2, d3, d4, t0, t1⟩ := HF.out _ HZ
 have l0 := HRB.out 0 k5 _ HW0.out
 rw [<- hnn, Nat.add_zero] at l0
 by_cases hl : nn < 1
 ·have HN : Hid (sizeN P Q nb T nb L B = 0) := zcb fun h => by have := h.2.2.2.1; omega
  have k6 : (nn : Int) < 1 := by omega
  clear hnn
  go_wp2_with fail
  go_ret
  exact ⟨by rw [HN.out]; rfl, HW0.out⟩
 by_cases hl2 : 64 < nn
 ·have HN : Hid (sizeN P Q nb T nb L B = 0) := zcb fun h => by have := h.2.2.2.2.1; omega
  have k6 : ¬ (nn : Int) < 1 := by omega
  have k7 : (64 : Int) < (nn : Int) := by omega
  clear hnn
  go_wp2_with fail
  go_ret
  exact ⟨by rw [HN.out]; rfl, HW0.out⟩
 have k6 : ¬ (nn : Int) < 1 := by omega
 have k7 : ¬ (64 : Int) < (nn : Int) := by omega
 have HNO : Hid (∀ j, j < nb -> ¬ (inI P Q (T j) = true /\ L j = nn /\ ∀ i, i < nn -> inI P Q (B j i) = true) -> sizeN P Q nb T nb L B = 0) := fun j hj hn => zcb fun h => hn (by have := zbg.1 h.2.2.2.2.2 j hj; rw [<- hnn] at this; exact this)
 have HYES : Hid ((∀ j, j < nb -> inI P Q (T j) = true /\ L j = nn /\ ∀ i, i < nn -> inI P Q (B j i) = true) -> sizeN P Q nb T nb L B = nn) := fun hy => by
  unfold sizeN
  rw [<- hnn, if_pos ⟨h1, h2, rfl, by omega, by omega, zbg.2 hy⟩]
 clear hnn
 go_wp2_with fail
 clear d0 d1 d2 d3 d4 t0 t1 l0
 clear k1 k2 k4 k5 k6 k7
 go_loopw [6] (fun jv wx => ∃ j : Nat, jv = .int .i64 (j : Int) /\ j <= nb /\ Hid (Old W wx) /\ Hid (∀ i, i < j -> inI P Q (T i) = true /\ L i = nn /\ ∀ k, k < nn -> inI P Q (B i k) = true)) (fun jv _ => nb - (intOf jv).toNat)
 case atStart => exact ⟨0, rfl, Nat.zero_le _, Old.refl _, fun j hj => by omega⟩
 case round =>
  obtain ⟨j, rfl, hj, HW, HJ⟩ := hrel
  by_cases hlt : j < nb
  ·have HT : Hid (∀ w', Old W w' -> G6 w' (w.heap.size) P Q G H (.slice a n cap) (w'.cell? ⟨w.heap.size + 1, 0, none⟩ = some (.slice (some ⟨tb, tof, none⟩) nb ct) /\ w'.cell? ⟨w.heap.size + 1, 1, none⟩ = some (.slice (some ⟨lb, lo, none⟩) nb cb) /\ w'.cell? ⟨tb, tof + j, none⟩ = some (.int .u64 (T j)) /\ w'.cell? ⟨lb, lo + j, none⟩ = some (.slice (BA j) (L j) (C j)))) := fun w' ho => by
    obtain ⟨d0, d1, d2, d3, d4, t0, t1⟩ := HF.out _ (HZ.then ho)
    exact ⟨d0, d1, d2, d3, d4, t0, t1, HRT.out j hlt _ (HW0.out.trans ho), HRB.out j hlt _ (HW0.out.trans ho)⟩
   obtain ⟨d0, d1, d2, d3, d4, t0, t1, ct0, cl0⟩ := HT.out _ HW.out
   have HIj : Hid (∀ wx, Calls prog 55 #[gv P Q G H a n cap, .int .u64 (T j)] wx fun e w' => e = .returned (.bool (inI P Q (T j))) /\ Old wx w') := fun wx => HI.out (T j) wx (HTU.out j hlt)
   have k9 : (j : Int) < (nb : Int) := by omega
   cases hin : inI P Q (T j)
   ·have HN : Hid (sizeN P Q nb T nb L B = 0) := HNO.out j hlt fun h => by rw [hin] at h; exact Bool.noConfusion h.1
    rw [hin] at HIj
    clear hin
    go_upto_region 9 with fail
    refine wp_region_held_drew (S := (fun w' => w'.cell? ⟨w.heap.size, 0, none⟩ = some (.int .u64 P) /\ w'.cell? ⟨w.heap.size, 1, none⟩ = some (.int .u64 Q) /\ w'.cell? ⟨w.heap.size, 2, none⟩ = some (.int .u64 G) /\ w'.cell? ⟨w.heap.size, 3, none⟩ = some (.int .u64 H) /\ w'.cell? ⟨w.heap.size, 4, none⟩ = some (.slice a n cap) /\ w'.cell? ⟨w.heap.size + 1, 0, none⟩ = some (.slice (some ⟨tb, tof, none⟩) nb ct) /\ w'.cell? ⟨w.heap.size + 1, 1, none⟩ = some (.slice (some ⟨lb, lo, none⟩) nb cb) /\ w'.cell? ⟨tb, tof + j, none⟩ = some (.int .u64 (T j)) /\ w'.cell? ⟨lb, lo + j, none⟩ = some (.slice (BA j) (L j) (C j)))) (by kernel_rfl) (HT.out _ HW.out.drew) (fun hHeld => ?_)
    refine wpAnyH_take (i := 0) (v := ?_) rfl (by kernel_rfl) (by kernel_rfl) (by kernel_rfl) (fun _ _ _ h => h) (Or.inl ⟨by rfl, ?_⟩) (by assumption) ?_
    rotate_left
    ·intro wz hSw
     try dsimp only at hSw
     go_simp
     try rfl
    simp only [Act.put, List.getElem_toArray, List.getElem_cons_zero, List.getElem_cons_succ, List.setIfInBounds_toArray, zs0, zs1]
    refine wpAnyH_take (i := 1) (v := ?_) rfl (by kernel_rfl) (by kernel_rfl) (by kernel_rfl) (fun _ _ _ h => h) (Or.inl ⟨by rfl, ?_⟩) (by assumption) ?_
    rotate_left
    ·intro wz hSw
     try dsimp only at hSw
     go_simp
     try rfl
    simp only [Act.put, List.getElem_toArray, List.getElem_cons_zero, List.getElem_cons_succ, List.setIfInBounds_toArray, zs0, zs1]
    refine wpAnyH_take (i := 2) (v := ?_) rfl (by kernel_rfl) (by kernel_rfl) (by kernel_rfl) (fun _ _ _ h => h) (Or.inl ⟨by rfl, ?_⟩) (by assumption) ?_
    rotate_left
    ·intro wz hSw
     try dsimp only at hSw
     go_simp
     try rfl
    simp only [Act.put, List.getElem_toArray, List.getElem_cons_zero, List.getElem_cons_succ, List.setIfInBounds_toArray, zs0, zs1]
    refine wpAnyH_take (i := 3) (v := ?_) rfl (by kernel_rfl) (by kernel_rfl) (by kernel_rfl) (fun _ _ _ h => h) (Or.inl ⟨by rfl, ?_⟩) (by assumption) ?_
    rotate_left
    ·intro wz hSw
     try dsimp only at hSw
     go_simp
     try rfl
    simp only [Act.put, List.getElem_toArray, List.getElem_cons_zero, List.getElem_cons_succ, List.setIfInBounds_toArray, zs0, zs1]
    refine wpAnyH_take (i := 4) (v := ?_) rfl (by kernel_rfl) (by kernel_rfl) (by kernel_rfl) (fun _ _ _ h => h) (Or.inl ⟨by rfl, ?_⟩) (by assumption) ?_
    rotate_left
    ·intro wz hSw
     try dsimp only at hSw
     go_simp
     try rfl
    simp only [Act.put, List.getElem_toArray, List.getElem_cons_zero, List.getElem_cons_succ, List.setIfInBounds_toArray, zs0, zs1]
    refine wpAnyH_take (i := 5) (v := ?_) rfl (by kernel_rfl) (by kernel_rfl) (by kernel_rfl) (fun _ _ _ h => h) (Or.inl ⟨by rfl, ?_⟩) (by assumption) ?_
    rotate_left
    ·intro wz hSw
     try dsimp only at hSw
     go_simp
     try rfl
    simp only [Act.put, List.getElem_toArray, List.getElem_cons_zero, List.getElem_cons_succ, List.setIfInBounds_toArray, zs0, zs1]
    refine wpAnyH_ready (rs := [6]) (by kernel_rfl) (by simp) ?_
    refine AllReadyH.cons rfl (fun K hK => ?_) AllReadyH.nil
    rw [if_pos (by rfl)]
    go_simp
    refine (HIj.out _).mono ?_
    rintro e w4 ⟨rfl, o4⟩
    have h4 : Old W w4 := HW.out.drew.trans o4
    refine hK.out _ _ (HT.out _ h4) (fun hHeld => ?_)
    clear hK K
    refine wpAnyH_take (i := 7) (v := ?_) rfl (by kernel_rfl) (by kernel_rfl) (by kernel_rfl) (fun _ _ _ h => h) (Or.inl ⟨by rfl, ?_⟩) (by assumption) ?_
    rotate_left
    ·intro wz hSw
     try dsimp only at hSw
     go_simp
     try rfl
    simp only [Act.put, List.getElem_toArray, List.getElem_cons_zero, List.getElem_cons_succ, List.setIfInBounds_toArray, zs0, zs1]
    refine wpAnyH_take (i := 8) (v := ?_) rfl (by kernel_rfl) (by kernel_rfl) (by kernel_rfl) (fun _ _ _ h => h) (Or.inl ⟨by rfl, ?_⟩) (by assumption) ?_
    rotate_left
    ·intro wz hSw
     try dsimp only at hSw
     go_simp
     try rfl
    simp only [Act.put, List.getElem_toArray, List.getElem_cons_zero, List.getElem_cons_succ, List.setIfInBounds_toArray, zs0, zs1]
    refine wpAnyH_take (i := 9) rfl (by kernel_rfl) (by kernel_rfl) (by kernel_rfl) (fun _ _ _ h => h) (Or.inr ⟨by rfl, rfl⟩) (by assumption) ?_
    simp only [Act.put, List.getElem_toArray, List.getElem_cons_zero, List.getElem_cons_succ, List.setIfInBounds_toArray, zs0, zs1]
    refine wpAnyH_take (i := 10) rfl (by kernel_rfl) (by kernel_rfl) (by kernel_rfl) (fun _ _ _ h => h) (Or.inr ⟨by rfl, rfl⟩) (by assumption) ?_
    simp only [Act.put, List.getElem_toArray, List.getElem_cons_zero, List.getElem_cons_succ, List.setIfInBounds_toArray, zs0, zs1]
    refine wpAnyH_take (i := 11) rfl (by kernel_rfl) (by kernel_rfl) (by kernel_rfl) (fun _ _ _ h => h) (Or.inr ⟨by rfl, rfl⟩) (by assumption) ?_
    simp only [Act.put, List.getElem_toArray, List.getElem_cons_zero, List.getElem_cons_succ, List.setIfInBounds_toArray, zs0, zs1]
    refine wpAnyH_take (i := 12) rfl (by kernel_rfl) (by kernel_rfl) (by kernel_rfl) (fun _ _ _ h => h) (Or.inr ⟨by rfl, rfl⟩) (by assumption) ?_
    simp only [Act.put, List.getElem_toArray, List.getElem_cons_zero, List.getElem_cons_succ, List.setIfInBounds_toArray, zs0, zs1]
    refine wpAnyH_take (i := 13) rfl (by kernel_rfl) (by kernel_rfl) (by kernel_rfl) (fun _ _ _ h => h) (Or.inr ⟨by rfl, rfl⟩) (by assumption) ?_
    simp only [Act.put, List.getElem_toArray, List.getElem_cons_zero, List.getElem_cons_succ, List.setIfInBounds_toArray, zs0, zs1]
    refine wpAnyH_take (i := 14) rfl (by kernel_rfl) (by kernel_rfl) (by kernel_rfl) (fun _ _ _ h => h) (Or.inr ⟨by rfl, rfl⟩) (by assumption) ?_
    simp only [Act.put, List.getElem_toArray, List.getElem_cons_zero, List.getElem_cons_succ, List.setIfInBounds_toArray, zs0, zs1]
    refine wpAnyH_take (i := 15) rfl (by kernel_rfl) (by kernel_rfl) (by kernel_rfl) (fun _ _ _ h => h) (Or.inr ⟨by rfl, rfl⟩) (by assumption) ?_
    simp only [Act.put, List.getElem_toArray, List.getElem_cons_zero, List.getElem_cons_succ, List.setIfInBounds_toArray, zs0, zs1]
    refine wpAnyH_take (i := 16) rfl (by kernel_rfl) (by kernel_rfl) (by kernel_rfl) (fun _ _ _ h => h) (Or.inr ⟨by rfl, rfl⟩) (by assumption) ?_
    simp only [Act.put, List.getElem_toArray, List.getElem_cons_zero, List.getElem_cons_succ, List.setIfInBounds_toArray, zs0, zs1]
    refine wpAnyH_take (i := 17) (v := ?_) rfl (by kernel_rfl) (by kernel_rfl) (by kernel_rfl) (fun _ _ _ h => h) (Or.inl ⟨by rfl, ?_⟩) (by assumption) ?_
    rotate_left
    ·intro wz hSw
     try dsimp only at hSw
     go_simp
     try rfl
    simp only [Act.put, List.getElem_toArray, List.getElem_cons_zero, List.getElem_cons_succ, List.setIfInBounds_toArray, zs0, zs1]
    refine wpAnyH_done (by kernel_rfl) ?_ _
    go_wp2_with fail
    go_ret
    exact ⟨by rw [HN.out]; rfl, HW0.out.trans h4⟩
   by_cases hL : L j = nn
   ·have HLj : Hid (L j = nn) := hL
    have HIN : Hid (inI P Q (T j) = true) := hin
    rw [hin] at HIj
    rw [hL] at cl0 HT
    clear hin
    rcases HRF.out j hlt with h0 | ⟨rb, ro, hq, _, hr⟩
    ·omega
    rw [hq] at cl0 HT
    have HRR : Hid (∀ k, k < nn -> ∀ w', Old w w' -> w'.cell? ⟨rb, ro + k, none⟩ = some (.int .u64 (B j k))) := fun k hk w' ho => ho.cellOf (hr k (by omega)).1
    have HRU : Hid (∀ k, k < nn -> U64 (B j k)) := fun k hk => (hr k (by omega)).2
    clear hr hq hL
    go_upto_region 9 with fail
    go_region_held3 (fun w' => w'.cell? ⟨w.heap.size, 0, none⟩ = some (.int .u64 P) /\ w'.cell? ⟨w.heap.size, 1, none⟩ = some (.int .u64 Q) /\ w'.cell? ⟨w.heap.size, 2, none⟩ = some (.int .u64 G) /\ w'.cell? ⟨w.heap.size, 3, none⟩ = some (.int .u64 H) /\ w'.cell? ⟨w.heap.size, 4, none⟩ = some (.slice a n cap) /\ w'.cell? ⟨w.heap.size + 1, 0, none⟩ = some (.slice (some ⟨tb, tof, none⟩) nb ct) /\ w'.cell? ⟨w.heap.size + 1, 1, none⟩ = some (.slice (some ⟨lb, lo, none⟩) nb cb) /\ w'.cell? ⟨tb, tof + j, none⟩ = some (.int .u64 (T j)) /\ w'.cell? ⟨lb, lo + j, none⟩ = some (.slice (some ⟨rb, ro, none⟩) nn (C j))) (first | exact HT.out _ h4 | exact HT.out _ HW.out.drew) ((go_at_call 55; refine (HIj.out _).mono ?_; rintro e w4 ⟨rfl, o4⟩; have h4 : Old W w4 := HW.out.drew.trans o4))
    have HW4 : Hid (Old W w4) := h4
    clear h4 o4
    clear d0 d1 d2 d3 d4 t0 t1 ct0 cl0
    go_wp2_with fail
    go_loopw [7] (fun kv wx => ∃ k : Nat, kv = .int .i64 (k : Int) /\ k <= nn /\ Hid (Old W wx) /\ Hid (∀ i, i < k -> inI P Q (B j i) = true)) (fun kv _ => nn - (intOf kv).toNat)
    case atStart => exact ⟨0, rfl, Nat.zero_le _, HW4, fun i hi => by omega⟩
    case round =>
     obtain ⟨k, rfl, hk, HWk, HK⟩ := hrel
     by_cases hlk : k < nn
     ·have HT' : Hid (∀ w', Old W w' -> G6 w' (w.heap.size) P Q G H (.slice a n cap) (w'.cell? ⟨w.heap.size + 1, 0, none⟩ = some (.slice (some ⟨tb, tof, none⟩) nb ct) /\ w'.cell? ⟨w.heap.size + 1, 1, none⟩ = some (.slice (some ⟨lb, lo, none⟩) nb cb) /\ w'.cell? ⟨lb, lo + j, none⟩ = some (.slice (some ⟨rb, ro, none⟩) nn (C j)) /\ w'.cell? ⟨rb, ro + k, none⟩ = some (.int .u64 (B j k)))) := fun w' ho => by
       obtain ⟨d0, d1, d2, d3, d4, t0, t1, _, cl⟩ := HT.out _ ho
       exact ⟨d0, d1, d2, d3, d4, t0, t1, cl, HRR.out k hlk _ (HW0.out.trans ho)⟩
      obtain ⟨d0, d1, d2, d3, d4, t0, t1, cl1, cb1⟩ := HT'.out _ HWk.out
      have HIk : Hid (∀ wx, Calls prog 55 #[gv P Q G H a n cap, .int .u64 (B j k)] wx fun e w' => e = .returned (.bool (inI P Q (B j k))) /\ Old wx w') := fun wx => HI.out (B j k) wx (HRU.out k hlk)
      cases hb : inI P Q (B j k)
      ·have HN : Hid (sizeN P Q nb T nb L B = 0) := HNO.out j hlt fun h => by have := h.2.2 k hlk; rw [hb] at this; exact Bool.noConfusion this
       rw [hb] at HIk
       clear hb
       go_upto_region 14 with fail
       go_region_held3 (fun w' => w'.cell? ⟨w.heap.size, 0, none⟩ = some (.int .u64 P) /\ w'.cell? ⟨w.heap.size, 1, none⟩ = some (.int .u64 Q) /\ w'.cell? ⟨w.heap.size, 2, none⟩ = some (.int .u64 G) /\ w'.cell? ⟨w.heap.size, 3, none⟩ = some (.int .u64 H) /\ w'.cell? ⟨w.heap.size, 4, none⟩ = some (.slice a n cap) /\ w'.cell? ⟨w.heap.size + 1, 0, none⟩ = some (.slice (some ⟨tb, tof, none⟩) nb ct) /\ w'.cell? ⟨w.heap.size + 1, 1, none⟩ = some (.slice (some ⟨lb, lo, none⟩) nb cb) /\ w'.cell? ⟨lb, lo + j, none⟩ = some (.slice (some ⟨rb, ro, none⟩) nn (C j)) /\ w'.cell? ⟨rb, ro + k, none⟩ = some (.int .u64 (B j k))) (first | exact HT'.out _ h5 | exact HT'.out _ HWk.out.drew) ((go_at_call 55; refine (HIk.out _).mono ?_; rintro e w5 ⟨rfl, o5⟩; have h5 : Old W w5 := HWk.out.drew.trans o5))
       go_wp2_with fail
       go_ret
       exact ⟨by rw [HN.out]; rfl, HW0.out.trans h5⟩
      ·have HB : Hid (inI P Q (B j k) = true) := hb
       rw [hb] at HIk
       clear hb
       go_upto_region 14 with fail
       go_region_held3 (fun w' => w'.cell? ⟨w.heap.size, 0, none⟩ = some (.int .u64 P) /\ w'.cell? ⟨w.heap.size, 1, none⟩ = some (.int .u64 Q) /\ w'.cell? ⟨w.heap.size, 2, none⟩ = some (.int .u64 G) /\ w'.cell? ⟨w.heap.size, 3, none⟩ = some (.int .u64 H) /\ w'.cell? ⟨w.heap.size, 4, none⟩ = some (.slice a n cap) /\ w'.cell? ⟨w.heap.size + 1, 0, none⟩ = some (.slice (some ⟨tb, tof, none⟩) nb ct) /\ w'.cell? ⟨w.heap.size + 1, 1, none⟩ = some (.slice (some ⟨lb, lo, none⟩) nb cb) /\ w'.cell? ⟨lb, lo + j, none⟩ = some (.slice (some ⟨rb, ro, none⟩) nn (C j)) /\ w'.cell? ⟨rb, ro + k, none⟩ = some (.int .u64 (B j k))) (first | exact HT'.out _ h5 | exact HT'.out _ HWk.out.drew) ((go_at_call 55; refine (HIk.out _).mono ?_; rintro e w5 ⟨rfl, o5⟩; have h5 : Old W w5 := HWk.out.drew.trans o5))
       have HW5 : Hid (Old W w5) := h5
       clear h5 o5
       go_wp2_with fail
       go_roundw
       case rel => exact ⟨k + 1, zab k, by omega, HW5, zav HK.out HB.out⟩
       case measure => simp [intOf]; omega
     ·have he : nn = k := by omega
      subst he
      go_wp2_with fail
      go_roundw
      case rel => exact ⟨j + 1, zab j, by omega, HWk, zav HJ.out ⟨HIN.out, HLj.out, HK.out⟩⟩
      case measure => simp [intOf]; omega
   ·have HN : Hid (sizeN P Q nb T nb L B = 0) := HNO.out j hlt fun h => hL h.2.1
    rw [hin] at HIj
    have k8 : ¬ (L j : Int) = (nn : Int) := by omega
    clear hin
    go_upto_region 9 with fail
    go_region_held3 (fun w' => w'.cell? ⟨w.heap.size, 0, none⟩ = some (.int .u64 P) /\ w'.cell? ⟨w.heap.size, 1, none⟩ = some (.int .u64 Q) /\ w'.cell? ⟨w.heap.size, 2, none⟩ = some (.int .u64 G) /\ w'.cell? ⟨w.heap.size, 3, none⟩ = some (.int .u64 H) /\ w'.cell? ⟨w.heap.size, 4, none⟩ = some (.slice a n cap) /\ w'.cell? ⟨w.heap.size + 1, 0, none⟩ = some (.slice (some ⟨tb, tof, none⟩) nb ct) /\ w'.cell? ⟨w.heap.size + 1, 1, none⟩ = some (.slice (some ⟨lb, lo, none⟩) nb cb) /\ w'.cell? ⟨tb, tof + j, none⟩ = some (.int .u64 (T j)) /\ w'.cell? ⟨lb, lo + j, none⟩ = some (.slice (BA j) (L j) (C j))) (first | exact HT.out _ h4 | exact HT.out _ HW.out.drew) ((go_at_call 55; refine (HIj.out _).mono ?_; rintro e w4 ⟨rfl, o4⟩; have h4 : Old W w4 := HW.out.drew.trans o4))
    go_wp2_with fail
    go_ret
    exact ⟨by rw [HN.out]; rfl, HW0.out.trans h4⟩
  ·have he : nb = j := by omega
   subst he
   have HN : Hid (sizeN P Q nb T nb L B = nn) := HYES.out HJ.out
   obtain ⟨d0, d1, d2, d3, d4, t0, t1⟩ := HF.out _ (HZ.then HW.out)
   go_wp2_with fail
   go_ret
   exact ⟨by rw [HN.out]; rfl, HW0.out.trans HW.out⟩
def fitsB (sz nw : Nat) : Bool := decide (sz ≠ 0) && decide (nw = sz)
theorem za2 {sz nw : Nat} : fitsB sz nw = true ↔ sz ≠ 0 /\ nw = sz := by simp [fitsB]
set_option linter.unusedSimpArgs false in
theorem rimage_any (P Q G H : Int) (a : OA) (n cap : Nat) (bt : OA) (nt ct : Nat) (T : NI) (bb : OA) (nb cb : Nat) (BA : Nat -> Option Addr) (L C : Nat -> Nat) (B : NN) (bw : OA) (nw cw : Nat) (X : NI) (w : World) (h4 : Four P Q G H) (hC : ClaimIn w bt nt ct T bb nb cb BA L C B) (hX : FacsIn w bw nw X) :
  Calls prog 133 #[gv P Q G H a n cap, cv bt nt ct bb nb cb, .slice bw nw cw] w (Gives w (fitsB (sizeN P Q nt T nb L B) nw) nt (fun j => imI P Q (B j) X (sizeN P Q nt T nb L B))) := by
 have HZ := lain2 w (gc P Q G H a n cap) (cc bt nt ct bb nb cb) 25 50
 have HF : Hid (∀ w', Lain w [(gc P Q G H a n cap, 25), (cc bt nt ct bb nb cb, 50)] w' -> G6 w' (w.heap.size) P Q G H (.slice a n cap) (w'.cell? ⟨w.heap.size + 1, 0, none⟩ = some (.slice bt nt ct) /\ w'.cell? ⟨w.heap.size + 1, 1, none⟩ = some (.slice bb nb cb))) := fun _ h => ⟨h.cell 0 0 (by simp) rfl, h.cell 0 1 (by simp) rfl, h.cell 0 2 (by simp) rfl, h.cell 0 3 (by simp) rfl, h.cell 0 4 (by simp) rfl, h.cell 1 0 (by simp) rfl, h.cell 1 1 (by simp) rfl⟩
 have HC := hid hC
 have HX := hid hX
 have HS := hid fun wx (ho : Old w wx) => rsize_any P Q G H a n cap bt nt ct T bb nb cb BA L C B wx h4 (hC.old ho)
 have hcl := zcY (P := P) (Q := Q) (nt := nt) (T := T) (nb := nb) (L := L) (B := B)
 have hle := sizeN_le P Q nt T nb L B
 generalize sizeN P Q nt T nb L B = sz at *
 obtain ⟨E, hE⟩ : ∃ E : Nat -> Nat -> Int, E = fun j i => expI P Q (B j i) (X i) := ⟨_, rfl⟩
 obtain ⟨F, hF⟩ : ∃ F : Nat -> Int, F = fun j => prodI P (E j) sz := ⟨_, rfl⟩
 have h133 : (fun j => imI P Q (B j) X sz) = F := by rw [hF, hE]; rfl
 rw [h133]
 clear h133
 have HEx : Hid (∀ j k wx, U64 (B j k) -> U64 (X k) -> Calls prog 68 #[gv P Q G H a n cap, .int .u64 (B j k), .int .u64 (X k)] wx fun e w' => e = .returned (.int .u64 (E j k)) /\ Old wx w') := fun j k wx hb hx => (rexp_any P Q G H (B j k) (X k) a n cap wx h4.q1 hb.1 hb.2 hx.1 hx.2).mono fun e w' ⟨h, o⟩ => ⟨by rw [h, hE], o⟩
 have HMu : Hid (∀ j k wx, Calls prog 70 #[.int .u64 (prodI P (E j) k), .int .u64 (E j k), .int .u64 P] wx fun e w' => e = .returned (.int .u64 (prodI P (E j) (k + 1))) /\ Old wx w') := fun j k wx => (zbo (prodI P (E j) k) (E j k) P wx (zdm _ _ _).1 (zdm _ _ _).2 (by rw [hE]; exact (zaz _ _ _ _).1) (by rw [hE]; exact (zaz _ _ _ _).2)).mono fun e w' ⟨h, o⟩ => ⟨h, (Old.refl _).draws o⟩
 have HFj : Hid (∀ j, prodI P (E j) sz = F j) := fun j => by rw [hF]
 clear hF hE h4 hC hX
 obtain ⟨i0, hi, hz0, hz1, hz2⟩ := info_parts zbj
 go_enter func133, ntmps133
 go_upto_region 1 with fail
 generalize hW : (w.alloc (.cells (gc P Q G H a n cap) 25)).alloc (.cells (cc bt nt ct bb nb cb) 50) = W at *
 clear hW
 have HW0 := hid HZ.old
 obtain ⟨d0, d1, d2, d3, d4, t0, t1⟩ := HF.out _ HZ
 go_upto_region 2 with (go_at_call 150; refine (HS.out _ HW0.out).mono ?_; rintro e w2 ⟨rfl, h2⟩)
 clear HS d0 d1 d2 d3 d4 t0 t1
 by_cases hs0 : sz = 0
 ·have HN : Hid (fitsB sz nw = false) := no_of fun h => (za2.1 h).1 hs0
  have k1 : (sz : Int) = 0 := by omega
  clear hcl hs0
  go_wp2_with fail
  go_ret2
  exact zdh HN.out (HW0.out.trans h2)
 by_cases hnw : nw = sz
 ·have hcl := hcl hs0
  subst hnw
  have HN := hid (za2.2 ⟨hs0, rfl⟩)
  rcases HC.out.bas with h0 | ⟨lb, lo, hqb, _, hrb⟩
  ·have := hcl.t1; have := hcl.nb; omega
  subst hqb
  rcases HX.out with h0 | ⟨xb, xo, hqx, _, hrx⟩
  ·omega
  subst hqx
  have HRB : Hid (∀ j, j < nt -> ∀ w', Old w w' -> w'.cell? ⟨lb, lo + j, none⟩ = some (.slice (BA j) nw (C j))) := fun j hj w' ho => by
   have := (hrb j (by have := hcl.nb; omega)).1
   rw [hcl.len j hj] at this
   exact ho.cellOf this
  have HRF : Hid (∀ j, j < nt -> FacsIn w (BA j) nw (B j)) := fun j hj => by
   have := (hrb j (by have := hcl.nb; omega)).2.2.2
   rwa [hcl.len j hj] at this
  have HRX : Hid (∀ k, k < nw -> ∀ w', Old w w' -> w'.cell? ⟨xb, xo + k, none⟩ = some (.int .u64 (X k))) := fun k hk w' ho => ho.cellOf (hrx k hk).1
  have HXU := hid fun k (hk : k < nw) => (hrx k hk).2
  have hnt := hcl.t64
  have hnb := hcl.nb
  have k1 : ¬ (nw : Int) = 0 := by omega
  have k3 : ((nw : Int) == 0) = false := by simp; omega
  have HW2 := hid h2
  clear hrb hrx hcl h2
  subst hnb
  go_wp2_with fail
  go_loopw [9, 10] (fun v jv wx => ∃ j : Nat, jv = .int .i64 (j : Int) /\ j <= nb /\ Hid (Nums wx W.heap.size v j F) /\ Hid (Old W wx)) (fun _ jv _ => nb - (intOf jv).toNat)
  case atStart => exact ⟨0, rfl, Nat.zero_le _, zaD _ _ _, HW2⟩
  case round =>
   obtain ⟨j, rfl, hj, HNu, HW⟩ := hrel
   by_cases hlt : j < nb
   ·rcases HRF.out j hlt with h0 | ⟨rb, ro, hq, _, hr⟩
    ·omega
    have HRR : Hid (∀ k, k < nw -> ∀ w', Old w w' -> w'.cell? ⟨rb, ro + k, none⟩ = some (.int .u64 (B j k))) := fun k hk w' ho => ho.cellOf (hr k hk).1
    have HRU := hid fun k (hk : k < nw) => (hr k hk).2
    have HL : Hid (∀ w', Old w w' -> w'.cell? ⟨lb, lo + j, none⟩ = some (.slice (some ⟨rb, ro, none⟩) nw (C j))) := fun w' ho => by rw [<- hq]; exact HRB.out j hlt w' ho
    clear hr hq
    obtain ⟨wo, hwo⟩ : ∃ x : World, x = wr := ⟨_, rfl⟩
    have HOo : Hid (Old wo wr) := by rw [hwo]; exact Old.refl _
    rw [<- hwo] at HNu HW
    have HWr : Hid (Old W wr) := by rw [<- hwo]; exact HW
    clear hwo
    obtain ⟨d0, d1, d2, d3, d4, t0, t1⟩ := HF.out _ (HZ.then HWr.out)
    go_wp2_with fail
    clear d0 d1 d2 d3 d4 t0 t1
    go_loopw [11, 12] (fun xv kv wx => ∃ k : Nat, kv = .int .i64 (k : Int) /\ k <= nw /\ xv = .int .u64 (prodI P (E j) k) /\ Hid (Old wo wx)) (fun _ kv _ => nw - (intOf kv).toNat)
    case atStart => exact ⟨0, rfl, Nat.zero_le _, rfl, HOo⟩
    case round =>
     obtain ⟨k, rfl, hk, rfl, HOk⟩ := hrel
     by_cases hlk : k < nw
     ·have HT : Hid (∀ w', Old W w' -> G6 w' (w.heap.size) P Q G H (.slice a n cap) (w'.cell? ⟨w.heap.size + 1, 0, none⟩ = some (.slice bt nb ct) /\ w'.cell? ⟨w.heap.size + 1, 1, none⟩ = some (.slice (some ⟨lb, lo, none⟩) nb cb) /\ w'.cell? ⟨lb, lo + j, none⟩ = some (.slice (some ⟨rb, ro, none⟩) nw (C j)) /\ w'.cell? ⟨rb, ro + k, none⟩ = some (.int .u64 (B j k)) /\ w'.cell? ⟨xb, xo + k, none⟩ = some (.int .u64 (X k)))) := fun w' ho => by
       obtain ⟨d0, d1, d2, d3, d4, t0, t1⟩ := HF.out _ (HZ.then ho)
       exact ⟨d0, d1, d2, d3, d4, t0, t1, HL.out _ (HW0.out.trans ho), HRR.out k hlk _ (HW0.out.trans ho), HRX.out k hlk _ (HW0.out.trans ho)⟩
      have HWk := hid (HW.out.trans HOk.out)
      obtain ⟨d0, d1, d2, d3, d4, t0, t1, cl, cb1, cx⟩ := HT.out _ HWk.out
      have HE1 : Hid (∀ wx, Calls prog 68 #[gv P Q G H a n cap, .int .u64 (B j k), .int .u64 (X k)] wx fun e w' => e = .returned (.int .u64 (E j k)) /\ Old wx w') := fun wx => HEx.out j k wx (HRU.out k hlk) (HXU.out k hlk)
      have HM1 : Hid (∀ wx, Calls prog 70 #[.int .u64 (prodI P (E j) k), .int .u64 (E j k), .int .u64 P] wx fun e w' => e = .returned (.int .u64 (prodI P (E j) (k + 1))) /\ Old wx w') := fun wx => HMu.out j k wx
      have k9 : (j : Int) < (nb : Int) := by omega
      obtain ⟨x1, hx1⟩ : ∃ x1 : Int, x1 = prodI P (E j) (k + 1) := ⟨_, rfl⟩
      rw [<- hx1] at HM1
      have HV1 : Hid (Value.int .u64 x1 = .int .u64 (prodI P (E j) (k + 1))) := by rw [hx1]; exact rfl
      clear hx1
      go_upto_region 12 with fail
      go_region_held3 (fun w' => w'.cell? ⟨w.heap.size, 0, none⟩ = some (.int .u64 P) /\ w'.cell? ⟨w.heap.size, 1, none⟩ = some (.int .u64 Q) /\ w'.cell? ⟨w.heap.size, 2, none⟩ = some (.int .u64 G) /\ w'.cell? ⟨w.heap.size, 3, none⟩ = some (.int .u64 H) /\ w'.cell? ⟨w.heap.size, 4, none⟩ = some (.slice a n cap) /\ w'.cell? ⟨w.heap.size + 1, 0, none⟩ = some (.slice bt nb ct) /\ w'.cell? ⟨w.heap.size + 1, 1, none⟩ = some (.slice (some ⟨lb, lo, none⟩) nb cb) /\ w'.cell? ⟨lb, lo + j, none⟩ = some (.slice (some ⟨rb, ro, none⟩) nw (C j)) /\ w'.cell? ⟨rb, ro + k, none⟩ = some (.int .u64 (B j k)) /\ w'.cell? ⟨xb, xo + k, none⟩ = some (.int .u64 (X k))) (first | exact HT.out _ h5 | exact HT.out _ h4 | exact HT.out _ HWk.out.drew) (first
       | (go_at_call 68; refine (HE1.out _).mono ?_; rintro e w4 ⟨rfl, o4⟩; have h4 : Old W w4 := HWk.out.drew.trans o4)
       | (go_at_call 70; refine (HM1.out _).mono ?_; rintro e w5 ⟨rfl, o5⟩; have h5 : Old W w5 := h4.trans o5; have HO5 : Hid (Old wo w5) := (HOk.out.drew.trans o4).trans o5))
      go_wp2_with fail
      go_roundw
      case rel => exact ⟨k + 1, zab k, by omega, HV1.out, HO5⟩
      case measure => simp [intOf]; omega
     ·have he : nw = k := by omega
      subst he
      have hown := HNu.out.old HOk.out
      have hWk : Old W wr := HW.out.trans HOk.out
      have hs4 := hWk.size
      have HV := hid (HFj.out j)
      generalize prodI P (E j) nw = xf at *
      go_wp2_with (at_builtin; refine wpList_append_own _ rfl _ _ 29 rfl W.heap.size 22 i0 (.int .u64 0) 1 8 U29 hi hz0 hz1 hz2 rfl (by decide) _ _ _ rfl (World.ownsRow.alloc hown _) ⟨wr.heap.size, 0, none⟩ 1 1 [.int .u64 xf] rfl rfl ?c1 ?c2 ?c3 ?c4 ?c5 ?_)
      case c1 => exact cell_one_new _ _ _
      case c2 => intro u hu; simp at hu; subst hu; rfl
      case c3 => unfold maxLen; omega
      case c4 => omega
      case c5 => simp; omega
      intro v' w5 hown' hgrow _
      have HN5 := hid (Nums.app hown' HV.out.symm)
      have HW5 := hid (Nums.grown hown hWk hgrow)
      clear hown' hgrow hown hWk
      go_wp2
      go_roundw
      case rel => exact ⟨j + 1, zab j, by omega, HN5, HW5⟩
      case measure => simp [intOf]; omega
   ·have he : nb = j := by omega
    subst he
    obtain ⟨d0, d1, d2, d3, d4, t0, t1⟩ := HF.out _ (HZ.then HW.out)
    go_wp2_with fail
    go_ret2
    exact zdg HN.out (HNu.out.mono HW0.out.size) (HW0.out.trans HW.out)
 ·have HN : Hid (fitsB sz nw = false) := no_of fun h => hnw (za2.1 h).2
  have k1 : ¬ (sz : Int) = 0 := by omega
  have k2 : ¬ (nw : Int) = (sz : Int) := by omega
  have k3 : ((sz : Int) == 0) = false := by simp; omega
  have k4 : ((nw : Int) != (sz : Int)) = true := by simp; omega
  have k5 : ((nw : Int) == (sz : Int)) = false := by simp; omega
  clear hcl hs0
  go_wp2_with fail
  go_ret2
  exact zdh HN.out (HW0.out.trans h2)
def holdsL (P Q : Int) (nt : Nat) (T : NI) (nb : Nat) (L : Nat -> Nat) (B : NN) (nz : Nat) (X : NI) : Bool :=
 fitsB (sizeN P Q nt T nb L B) nz && sameB nt (fun j => imI P Q (B j) X (sizeN P Q nt T nb L B)) nt T
def accB (P Q : Int) (nt : Nat) (T : NI) (nb : Nat) (L : Nat -> Nat) (B : NN) (nk : Nat) (K : NI) (ch : Int) (nz : Nat) (X : NI) : Bool :=
 fitsB (sizeN P Q nt T nb L B) nz && (decide (nk = nt) && (List.range nt).all fun j => inI P Q (K j) && (imI P Q (B j) X (sizeN P Q nt T nb L B) == mulI (K j) (expI P Q (T j) ch) P))
theorem zdW {P Q : Int} {nt : Nat} {T : NI} {nb : Nat} {L : Nat -> Nat} {B : NN} {nk : Nat} {K : NI} {ch : Int} {nz : Nat} {X : NI} :
  accB P Q nt T nb L B nk K ch nz X = true ↔ fitsB (sizeN P Q nt T nb L B) nz = true /\ nk = nt /\ ∀ j, j < nt -> inI P Q (K j) = true /\ imI P Q (B j) X (sizeN P Q nt T nb L B) = mulI (K j) (expI P Q (T j) ch) P := by
 simp [accB]
def LensIn (w : World) (a : OA) (n : Nat) (LA : Nat -> Option Addr) (M C : Nat -> Nat) : Prop :=
 n = 0 ∨ ∃ b off, a = some ⟨b, off, none⟩ /\ b < w.heap.size /\ ∀ i, i < n -> w.cell? ⟨b, off + i, none⟩ = some (.slice (LA i) (M i) (C i))
theorem zbX : (prog.info? 50).map (·.size) = some 2 := by kernel_rfl
theorem zay {P : Program} {fn : Func} {p u : Tmp} {t : TypeId} {tmps : Array Value} {w : World} {b : Nat} {v x : Value} (h : fn.results = #[.cell p t, .tmp u]) (hp : tmps.getD p undef = .pointer (some ⟨b, 0, none⟩)) (hu : tmps.getD u undef = x) (hl : (loadVar t ⟨b, 0, none⟩).run P w = .ok v w) :
  (results fn tmps).run P w = .ok (.tuple #[v, x]) w := by
 rw [results_cell_tmp h, hp, hu]
 simp [asAddr, hl, Result.andThen]
theorem Nums.facs2 {w : World} {base k : Nat} {v : Value} {F : NI} (h : Nums w base v k F) (hF : ∀ i, i < k -> U64 (F i)) : ∃ b c, v = .slice b k c /\ k <= c /\ c <= 9223372036854775807 /\ FacsIn w b k F := by
 have hm : ∀ b c, v = .slice b k c -> c <= 9223372036854775807 := fun b c e => by
  rcases h.2 with ⟨e2, _⟩ | ⟨g, cap, cur, e2, _, _, _, hm, _⟩
  ·rw [e] at e2
   cases e2
   omega
  ·rw [e] at e2
   cases e2
   unfold maxLen at hm
   omega
 obtain ⟨b, c, e, h1, h2⟩ := h.facs hF
 exact ⟨b, c, e, h1, hm b c e, h2⟩
structure Cl (W : World) (bb : OA) (nb cb : Nat) (v : Value) (i : Nat) (wx : World) : Prop where
 old : Old W wx
 row : wx.heap[W.heap.size]? = some (.cells #[v, .slice bb nb cb] 50 (0, 0))
 nums : Nums wx (W.heap.size + 1) v i (fun _ => 1)
theorem Righ.im_is8 {P Q G z : Int} (h : Righ P Q G) {B X : NI} (n : Nat) (hB : ∀ k, k < n -> inI P Q (B k) = true) (hX : ∀ k, k < n -> 0 <= X k) (hz : inI P Q z = true) (hc : pw B X n % P = z % P) : imI P Q B X n = z := h.same (h.im_in n hB) hz ((h.im_cong n hB hX).trans hc)
theorem right_h {P Q G H : Int} {N A : NI} {F : NN} {L : Nat -> Nat} {n : Nat} (h : zcc P Q G H N A F L n = true) : inI P Q H = true := by
 unfold zcc at h
 simp only [Bool.and_eq_true, decide_eq_true_eq, beq_iff_eq] at h
 exact h.1.1.1.2
theorem zdX {B C E F : NI} : ∀ n, (∀ k, k < n -> B k = C k /\ E k = F k) -> pw B E n = pw C F n
 | 0, _ => rfl
 | n + 1, h => by
  show pw B E n * B n ^ (E n).toNat = pw C F n * C n ^ (F n).toNat
  rw [zdX n fun k hk => h k (by omega), (h n (by omega)).1, (h n (by omega)).2]
theorem pw_add (B E : NI) (m : Nat) : ∀ k, pw B E (m + k) = pw B E m * pw (fun i => B (m + i)) (fun i => E (m + i)) k
 | 0 => by show pw B E m = pw B E m * 1; rw [Int.mul_one]
 | k + 1 => by
  show pw B E (m + k) * B (m + k) ^ (E (m + k)).toNat = pw B E m * (pw (fun i => B (m + i)) (fun i => E (m + i)) k * B (m + k) ^ (E (m + k)).toNat)
  rw [pw_add B E m k, Int.mul_assoc]
theorem pw_ones {B E : NI} : ∀ n, (∀ k, k < n -> B k = 1) -> pw B E n = 1
 | 0, _ => rfl
 | n + 1, h => by
  show pw B E n * B n ^ (E n).toNat = 1
  rw [pw_ones n fun k hk => h k (by omega), h n (by omega), Int.one_pow, Int.mul_one]
theorem pw_row1 {B E : NI} {p : Nat} : ∀ n, p < n -> (∀ k, k < n -> k ≠ p -> B k = 1) -> pw B E n = B p ^ (E p).toNat
 | 0, h, _ => by omega
 | n + 1, h, hB => by
  show pw B E n * B n ^ (E n).toNat = _
  by_cases hp : p = n
  ·subst hp
   rw [pw_ones p fun k hk => hB k (by omega) (by omega), Int.one_mul]
  ·rw [pw_row1 n (by omega) fun k hk hne => hB k (by omega) hne, hB n (by omega) (by omega), Int.one_pow, Int.mul_one]
theorem pw_row2 {B E : NI} {p q : Nat} (hpq : p < q) : ∀ n, q < n -> (∀ k, k < n -> k ≠ p -> k ≠ q -> B k = 1) -> pw B E n = B p ^ (E p).toNat * B q ^ (E q).toNat
 | 0, h, _ => by omega
 | n + 1, h, hB => by
  show pw B E n * B n ^ (E n).toNat = _
  by_cases hq : q = n
  ·subst hq
   rw [pw_row1 q hpq fun k hk hne => hB k (by omega) hne (by omega)]
  ·rw [pw_row2 hpq n (by omega) fun k hk h1 h2 => hB k (by omega) h1 h2, hB n (by omega) (by omega) (by omega), Int.one_pow, Int.mul_one]
theorem pw_span {B E : NI} {m n q N : Nat} (hq : m + n <= q) (hN : q < N) (hB : ∀ k, k < N -> (k < m ∨ m + n <= k) -> k ≠ q -> B k = 1) : pw B E N = pw (fun i => B (m + i)) (fun i => E (m + i)) n * B q ^ (E q).toNat := by
 obtain ⟨r, rfl⟩ : ∃ r, N = m + n + r := ⟨N - (m + n), by omega⟩
 rw [pw_add B E (m + n) r, pw_add B E m n, pw_ones m (fun k hk => hB k (by omega) (Or.inl hk) (by omega)), Int.one_mul]
 congr 1
 have h := pw_row1 (B := fun i => B (m + n + i)) (E := fun i => E (m + n + i)) (p := q - (m + n)) r (by omega) (fun k hk hne => hB (m + n + k) (by omega) (Or.inr (by omega)) (by omega))
 rw [h]
 have e : m + n + (q - (m + n)) = q := by omega
 simp only [e]
def comI (P Q G H m r : Int) : Int := mulI (expI P Q G m) (expI P Q H r) P
theorem Righ.com {P Q G H m r : Int} (h : Righ P Q G) (hH : inI P Q H = true) (hm : 0 <= m) (hr : 0 <= r) : inI P Q (comI P Q G H m r) = true /\ comI P Q G H m r % P = G ^ m.toNat * H ^ r.toNat % P :=
 ⟨h.mul_in (h.exp_in h.gin) (h.exp_in hH), zbd h.ok (h.exp_cong h.gin hm) (h.exp_cong hH hr)⟩
theorem Righ.pow_mod {P Q G x : Int} (h : Righ P Q G) (hx : inI P Q x = true) {a b : Int} (ha : 0 <= a) (hb : 0 <= b) (hab : a % Q = b % Q) : x ^ a.toNat % P = x ^ b.toNat % P := by
 rw [<- h.exp_cong hx ha, <- h.exp_cong hx hb, exp_mod hab]
def bigI (P Q G A B Y Z : Int) : Int := overI P (mulI (expI P Q A Y) B P) (expI P Q G Z)
theorem Righ.big {P Q G H a r b s Y Z : Int} (h : Righ P Q G) (hH : inI P Q H = true) (ha : 0 <= a) (hr : 0 <= r) (hb : 0 <= b) (hs : 0 <= s) (hY : 0 <= Y) (hZ : 0 <= Z) {d u : Int} (hd0 : 0 <= d) (hu0 : 0 <= u) (hd : (d + Z) % Q = (Y * a + b) % Q) (hu : u % Q = (Y * r + s) % Q) :
  inI P Q (bigI P Q G (comI P Q G H a r) (comI P Q G H b s) Y Z) = true /\ bigI P Q G (comI P Q G H a r) (comI P Q G H b s) Y Z % P = G ^ d.toNat * H ^ u.toNat % P := by
 have cA := h.com hH ha hr
 have cB := h.com hH hb hs
 have hG := h.exp_in h.gin (e := Z)
 have hM : inI P Q (mulI (expI P Q (comI P Q G H a r) Y) (comI P Q G H b s) P) = true := h.mul_in (h.exp_in cA.1) cB.1
 refine ⟨h.over_in hM hG, ?_⟩
 refine h.cancel hG ?_
 unfold bigI
 rw [h.over_cong hG, zbd h.ok ((h.exp_cong cA.1 hY).trans (zaX cA.2 _)) cB.2]
 have e1 : G ^ d.toNat * H ^ u.toNat * expI P Q G Z % P = G ^ d.toNat * H ^ u.toNat * G ^ Z.toNat % P := zan rfl (h.exp_cong h.gin hZ)
 rw [e1]
 have e2 : G ^ d.toNat * H ^ u.toNat * G ^ Z.toNat = G ^ (d + Z).toNat * H ^ u.toNat := by
  rw [Int.toNat_add hd0 hZ, Int.pow_add]
  simp only [Int.mul_assoc, Int.mul_comm]
 have e3 : (G ^ a.toNat * H ^ r.toNat) ^ Y.toNat * (G ^ b.toNat * H ^ s.toNat) = G ^ (Y * a + b).toNat * H ^ (Y * r + s).toNat := by
  rw [Int.toNat_add (Int.mul_nonneg hY ha) hb, Int.toNat_add (Int.mul_nonneg hY hr) hs, Int.toNat_mul hY ha, Int.toNat_mul hY hr, Int.pow_add, Int.pow_add, Int.mul_pow, <- Int.pow_mul, <- Int.pow_mul, Nat.mul_comm a.toNat, Nat.mul_comm r.toNat]
  simp only [Int.mul_assoc, Int.mul_comm, Int.mul_left_comm]
 rw [e2, e3]
 exact zan (h.pow_mod h.gin (Int.add_nonneg (Int.mul_nonneg hY ha) hb) (Int.add_nonneg hd0 hZ) hd.symm) (h.pow_mod hH (Int.add_nonneg (Int.mul_nonneg hY hr) hs) hu0 hu.symm)
theorem Righ.third {P Q G H p d t x v : Int} (h : Righ P Q G) (hH : inI P Q H = true) (hp : inI P Q p = true) (hd : 0 <= d) (ht : 0 <= t) (hx : 0 <= x) (hv : 0 <= v) (hpx : p % P = G ^ x.toNat * H ^ v.toNat % P) {v' : Int} (hv' : 0 <= v') (hvq : v' % Q = (v * d + t) % Q) :
  inI P Q (mulI (expI P Q p d) (expI P Q H t) P) = true /\ mulI (expI P Q p d) (expI P Q H t) P % P = G ^ (x * d).toNat * H ^ v'.toNat % P := by
 refine ⟨h.mul_in (h.exp_in hp) (h.exp_in hH), ?_⟩
 rw [zbd h.ok ((h.exp_cong hp hd).trans (zaX hpx _)) (h.exp_cong hH ht)]
 have e : (G ^ x.toNat * H ^ v.toNat) ^ d.toNat * H ^ t.toNat = G ^ (x * d).toNat * H ^ (v * d + t).toNat := by
  rw [Int.toNat_add (Int.mul_nonneg hv hd) ht, Int.toNat_mul hx hd, Int.toNat_mul hv hd, Int.pow_add, Int.mul_pow, <- Int.pow_mul, <- Int.pow_mul, Int.mul_assoc]
 rw [e]
 exact zan rfl (h.pow_mod hH (Int.add_nonneg (Int.mul_nonneg hv hd) ht) hv' hvq.symm)
theorem Righ.row2 {P Q G z : Int} (h : Righ P Q G) {B E : NI} {p q N : Nat} (hpq : p < q) (hq : q < N) (hB : ∀ k, k < N -> k ≠ p -> k ≠ q -> B k = 1) (hp : inI P Q (B p) = true) (hq1 : inI P Q (B q) = true) (hE : ∀ k, k < N -> 0 <= E k) (hz : inI P Q z = true) (hc : B p ^ (E p).toNat * B q ^ (E q).toNat % P = z % P) : imI P Q B E N = z := by
 refine h.im_is8 N (fun k hk => ?_) hE hz (by rw [pw_row2 hpq N hq hB]; exact hc)
 by_cases h1 : k = p
 ·rw [h1]; exact hp
 ·by_cases h2 : k = q
  ·rw [h2]; exact hq1
  ·rw [hB k hk h1 h2]; exact h.one_in
theorem Righ.row1 {P Q G z : Int} (h : Righ P Q G) {B E : NI} {p N : Nat} (hp : p < N) (hB : ∀ k, k < N -> k ≠ p -> B k = 1) (hp1 : inI P Q (B p) = true) (hE : ∀ k, k < N -> 0 <= E k) (hz : inI P Q z = true) (hc : B p ^ (E p).toNat % P = z % P) : imI P Q B E N = z := by
 refine h.im_is8 N (fun k hk => ?_) hE hz (by rw [pw_row1 N hp hB]; exact hc)
 by_cases h1 : k = p
 ·rw [h1]; exact hp1
 ·rw [hB k hk h1]; exact h.one_in
theorem Righ.last {P Q G H p x k v : Int} (h : Righ P Q G) (hp : inI P Q p = true) (hx : 0 <= x) (hk : 0 <= k) (hpx : p % P = G ^ x.toNat * H ^ v.toNat % P) (hxk : x % Q = k % Q) :
  inI P Q (overI P p (expI P Q G k)) = true /\ H ^ v.toNat % P = overI P p (expI P Q G k) % P := by
 have hG := h.exp_in h.gin (e := k)
 refine ⟨h.over_in hp hG, h.cancel hG ?_⟩
 rw [h.over_cong hG, hpx]
 have e1 : H ^ v.toNat * expI P Q G k % P = H ^ v.toNat * G ^ k.toNat % P := zan rfl (h.exp_cong h.gin hk)
 rw [e1, Int.mul_comm]
 exact zan (h.pow_mod h.gin hk hx hxk.symm) rfl
def sumI8 (F : NI) : Nat -> Int
 | 0 => 0
 | n + 1 => sumI8 F n + F n
theorem sumI8_nn {F : NI} : ∀ n, (∀ i, i < n -> 0 <= F i) -> 0 <= sumI8 F n
 | 0, _ => Int.le_refl _
 | n + 1, h => Int.add_nonneg (sumI8_nn n fun i hi => h i (by omega)) (h n (by omega))
theorem pw_fold (U c : NI) : ∀ n, pw U c n = foldN (· * ·) 1 (fun i => U i ^ (c i).toNat) n
 | 0 => rfl
 | n + 1 => by
  show pw U c n * U n ^ (c n).toNat = foldN (· * ·) 1 (fun i => U i ^ (c i).toNat) n * U n ^ (c n).toNat
  rw [pw_fold U c n]
theorem pw_order {n : Nat} {o : Nat -> Nat} (ho : Ord8 n o) (U c : NI) : pw (fun i => U (o i)) (fun i => c (o i)) n = pw U c n := by
 rw [pw_fold, pw_fold]
 exact Ord8.fold Int.mul_assoc Int.mul_comm (fun j => U j ^ (c j).toNat) n o ho
theorem pw_again {P y : Int} {V W c r : NI} : ∀ n, (∀ i, i < n -> 0 <= c i) -> (∀ i, i < n -> 0 <= r i) -> (∀ i, i < n -> W i % P = V i * y ^ (r i).toNat % P) -> pw W c n % P = pw V c n * y ^ (sumI8 (fun i => c i * r i) n).toNat % P
 | 0, _, _, _ => by show (1 : Int) % P = 1 * y ^ (0 : Int).toNat % P; rw [show (0 : Int).toNat = 0 from rfl, Int.pow_zero, Int.mul_one]
 | n + 1, hc, hr, hW => by
  show pw W c n * W n ^ (c n).toNat % P = pw V c n * V n ^ (c n).toNat * y ^ (sumI8 (fun i => c i * r i) n + c n * r n).toNat % P
  have ih := pw_again n (fun i hi => hc i (by omega)) (fun i hi => hr i (by omega)) (fun i hi => hW i (by omega))
  have hs := sumI8_nn (F := fun i => c i * r i) n fun i hi => Int.mul_nonneg (hc i (by omega)) (hr i (by omega))
  have hcn := hc n (by omega)
  have hrn := hr n (by omega)
  rw [zan ih (zaX (hW n (by omega)) _), Int.toNat_add hs (Int.mul_nonneg hcn hrn), Int.toNat_mul hcn hrn, Int.pow_add, Int.mul_pow, <- Int.pow_mul, Nat.mul_comm (r n).toNat]
  congr 1
  simp only [Int.mul_assoc, Int.mul_comm, Int.mul_left_comm]
theorem Righ.mixed {P Q G y : Int} (h : Righ P Q G) (hy : inI P Q y = true) {n : Nat} {o : Nat -> Nat} (ho : Ord8 n o) {U W c r : NI} (hc : ∀ j, j < n -> 0 <= c j) (hr : ∀ i, i < n -> 0 <= r i) (hW : ∀ i, i < n -> W i % P = U (o i) * y ^ (r i).toNat % P) {e : Int} (he : 0 <= e) (hsum : (sumI8 (fun i => c (o i) * r i) n + e) % Q = 0) :
  pw W (fun i => c (o i)) n * y ^ e.toNat % P = pw U c n % P := by
 have hs := sumI8_nn (F := fun i => c (o i) * r i) n fun i hi => Int.mul_nonneg (hc _ (ho.lt i hi)) (hr i hi)
 have h1 := pw_again (V := fun i => U (o i)) (W := W) (c := fun i => c (o i)) (r := r) (y := y) n (fun i hi => hc _ (ho.lt i hi)) hr hW
 rw [zan h1 rfl, Int.mul_assoc, <- Int.pow_add, <- Int.toNat_add hs he, pw_order ho]
 have h2 : y ^ (sumI8 (fun i => c (o i) * r i) n + e).toNat % P = y ^ (0 : Int).toNat % P := h.pow_mod hy (Int.add_nonneg hs he) (Int.le_refl _) (by rw [hsum]; rfl)
 rw [zan rfl h2, show (0 : Int).toNat = 0 from rfl, Int.pow_zero, Int.mul_one]
theorem pr_fold (F : NI) : ∀ n, pr F n = foldN (· * ·) 1 F n
 | 0 => rfl
 | n + 1 => by
  show pr F n * F n = foldN (· * ·) 1 F n * F n
  rw [pr_fold F n]
theorem pr_nn {F : NI} : ∀ n, (∀ i, i < n -> 0 <= F i) -> 0 <= pr F n
 | 0, _ => by show (0 : Int) <= 1; omega
 | n + 1, h => Int.mul_nonneg (pr_nn n fun i hi => h i (by omega)) (h n (by omega))
theorem Righ.prod_order {P Q G : Int} (h : Righ P Q G) {n : Nat} {o : Nat -> Nat} (ho : Ord8 n o) (F : NI) : pr (fun i => F (o i)) n % Q = prodI Q F n % Q := by
 rw [prod_cong h.okq, pr_fold, pr_fold]
 rw [Ord8.fold Int.mul_assoc Int.mul_comm F n o ho]
theorem zeP : (prog.info? 5).map (fun i => (i.zero, i.size, i.bytes)) = some (some (.int .u8 0), 1, 1) := by kernel_rfl
def zbk (n : Int) (i : Nat) : Int := n / 2 ^ (8 * i) % 256
def zaY (n : Int) (k j : Nat) : List Int := (List.range j).map fun t => zbk n (k - 1 - t)
def zap (n : Int) (k : Nat) : List Int := zaY n k k
theorem zc1 (n : Int) (k j : Nat) : zaY n k (j + 1) = zaY n k j ++ [zbk n (k - 1 - j)] := by
 simp [zaY, List.range_succ]
theorem zdr (n : Int) (k j : Nat) : (zaY n k j).length = j := by simp [zaY]
theorem own_from {w : World} {base : Nat} {e : TypeId} {size : Nat} {v : Value} {n : Nat} {xs : List Value} (h : w.ownsRow base e size v n xs) : ∀ k, v.ownBlock = some k -> base <= k := by
 intro k hk
 rcases h.2 with ⟨rfl, _⟩ | ⟨g, cap, cur, rfl, hg, _⟩
 ·simp [Value.ownBlock] at hk
 ·simp [Value.ownBlock] at hk
  omega
theorem below_app {W w w' : World} {e : TypeId} {size : Nat} {v : Value} {n : Nat} {xs : List Value} {o : Obj} (hb : Below W.heap.size W w) (ho : w.ownsRow W.heap.size e size v n xs) (hg : (w.alloc o).grownBy w' v.ownBlock) : Below W.heap.size W w' :=
 (hb.alloc hb.size o).grown hg (Nat.le_trans hb.size (by simp)) (own_from ho)
theorem own_cells {w : World} {base : Nat} {e : TypeId} {v : Value} {n : Nat} {xs : List Value} (h : w.ownsRow base e 1 v n xs) (hn : 0 < n) : ∃ g cap, v = .slice (some ⟨g, 0, none⟩) n cap /\ base <= g /\ g < w.heap.size /\ n <= cap /\ ∀ i, i < n -> w.cell? ⟨g, i, none⟩ = xs[i]? := by
 have h' := h
 rcases h.2 with ⟨_, h0⟩ | ⟨g, cap, cur, rfl, hg, hh, hc, _⟩
 ·omega
 ·refine ⟨g, cap, rfl, hg, ?_, hc, fun i hi => h'.cellAt i (by omega)⟩
  refine Classical.byContradiction fun hc' => ?_
  have : w.heap[g]? = none := by simp; omega
  rw [this] at hh
  cases hh
theorem zcn (n : Int) (k : Nat) (w : World) (_n0 : 0 <= n) (_n1 : n <= 18446744073709551615) (hk : k <= 8) (hk0 : 0 < k) :
  Calls prog 148 #[.int .u64 n, .int .i64 (k : Int)] w fun e w' => e = .returned (.string (strOfNums (zap n k))) /\ Below w.heap.size w w' := by
 obtain ⟨i0, hi, hz0, hz1, hz2⟩ := info_parts zeP
 go_enter func148, ntmps148
 go_wp2_with fail
 go_loopw [5, 6] (fun v iv wr => ∃ j r : Nat, j + r = k /\ iv = .int .i64 ((r : Int) - 1) /\ wr.ownsRow w.heap.size 5 1 v j ((zaY n k j).map (Value.int .u8)) /\ Below w.heap.size w wr) (fun _ iv _ => (intOf iv + 1).toNat)
 case atStart => exact ⟨0, k, by omega, rfl, World.ownsRow_nil _ _ _ _, Below.refl _ _⟩
 case round =>
  obtain ⟨j, r, hjr, rfl, hown, hbel⟩ := hrel
  cases r with
  | zero =>
   obtain rfl : j = k := by omega
   obtain ⟨g, cap, rfl, _, _, _, hc⟩ := own_cells hown hk0
   have hcv := run_convert_bytes_arg wr 152 5 U152 U5 g 0 j cap (zaY n j j) (zdr ..) (fun i hi => by
    rw [Nat.zero_add, hc i hi, List.getElem?_map, List.getD, List.getElem?_eq_getElem (by rw [zdr]; exact hi)]
    rfl) 9 U9
   clear hc
   go_wp2
   go_ret
   exact ⟨rfl, hbel⟩
  | succ q =>
   have eq : ((q + 1 : Nat) : Int) - 1 = (q : Int) := by omega
   simp only [eq]
   clear eq
   have hs := hbel.size
   go_wp2_with (at_builtin; refine wpList_append_own _ rfl _ _ 152 rfl w.heap.size 5 i0 (.int .u8 0) 1 1 U152 hi hz0 hz1 hz2 rfl (by decide) _ _ _ rfl (hown.alloc _) ⟨wr.heap.size, 0, none⟩ 1 1 [.int .u8 (zbk n q)] rfl rfl ?c1 ?c2 ?c3 ?c4 ?c5 ?_)
   case c1 => exact cell_one_new _ _ _
   case c2 => intro u hu; simp at hu; subst hu; rfl
   case c3 => unfold maxLen; omega
   case c4 => omega
   case c5 => simp; omega
   intro v' w1 hown' hgrow _
   have hb1 := below_app hbel hown hgrow
   have ho1 : w1.ownsRow w.heap.size 5 1 v' (j + 1) ((zaY n k (j + 1)).map (Value.int .u8)) := by
    rw [zc1, List.map_append, show k - 1 - j = q by omega]
    exact hown'
   clear hown' hgrow hown hbel
   go_wp2
   go_roundw
   case rel => exact ⟨j + 1, q, by omega, rfl, ho1, hb1⟩
   case measure => simp [intOf]
def kList : List Int := [1116352408, 1899447441, 3049323471, 3921009573, 961987163, 1508970993, 2453635748, 2870763221, 3624381080, 310598401, 607225278, 1426881987, 1925078388, 2162078206, 2614888103, 3248222580, 3835390401, 4022224774, 264347078, 604807628, 770255983, 1249150122, 1555081692, 1996064986, 2554220882, 2821834349, 2952996808, 3210313671, 3336571891, 3584528711, 113926993, 338241895, 666307205, 773529912, 1294757372, 1396182291, 1695183700, 1986661051, 2177026350, 2456956037, 2730485921, 2820302411, 3259730800, 3345764771, 3516065817, 3600352804, 4094571909, 275423344, 430227734, 506948616, 659060556, 883997877, 958139571, 1322822218, 1537002063, 1747873779, 1955562222, 2024104815, 2227730452, 2361852424, 2428436474, 2756734187, 3204031479, 3329325298]
def hList : List Int := [1779033703, 3144134277, 1013904242, 2773480762, 1359893119, 2600822924, 528734635, 1541459225]
def kS (i : Nat) : Int := kList.getD i 0
def hS (i : Nat) : Int := hList.getD i 0
def add32 (a b : Int) : Int := (a + b) % 4294967296
def or32 (a b : Int) : Int := bits .or .u32 a b
def xor32 (a b : Int) : Int := bits .xor .u32 a b
def and32 (a b : Int) : Int := bits .and .u32 a b
def not32 (a : Int) : Int := bits .xor .u32 4294967295 a
def rot (x : Int) (n : Nat) : Int := or32 (x / 2 ^ n) (x * 2 ^ (32 - n) % 4294967296)
def low0 (x : Int) : Int := xor32 (xor32 (rot x 7) (rot x 18)) (x / 8)
def low1 (x : Int) : Int := xor32 (xor32 (rot x 17) (rot x 19)) (x / 1024)
def big1 (x : Int) : Int := xor32 (xor32 (rot x 6) (rot x 11)) (rot x 25)
def big0 (x : Int) : Int := xor32 (xor32 (rot x 2) (rot x 13)) (rot x 22)
def pick (e f g : Int) : Int := or32 (and32 e f) (and32 (not32 e) g)
def most (a b c : Int) : Int := or32 (or32 (and32 a b) (and32 a c)) (and32 b c)
def four (a b c d : Int) : Int := or32 (or32 (or32 (a * 16777216) (b * 65536)) (c * 256)) d
def word (B S : NI) (t : Nat) : Int :=
 if t < 16 then four (B (4 * t)) (B (4 * t + 1)) (B (4 * t + 2)) (B (4 * t + 3))
 else add32 (add32 (add32 (S (t - 16)) (low0 (S (t - 15)))) (S (t - 7))) (low1 (S (t - 2)))
def sched (B : NI) : Nat -> Nat -> Int
 | 0 => fun _ => 0
 | t + 1 => fun j => if j = t then word B (sched B t) t else sched B t j
def one32 (v : NI) (k w : Int) : Int := add32 (add32 (add32 (add32 (v 7) (big1 (v 4))) (pick (v 4) (v 5) (v 6))) k) w
def two32 (v : NI) : Int := add32 (big0 (v 0)) (most (v 0) (v 1) (v 2))
def zcW (v : NI) (k w : Int) : Nat -> Int
 | 0 => add32 (one32 v k w) (two32 v)
 | 1 => v 0
 | 2 => v 1
 | 3 => v 2
 | 4 => add32 (v 3) (one32 v k w)
 | 5 => v 4
 | 6 => v 5
 | 7 => v 6
 | _ => 0
def zai (W : NI) : Nat -> (Nat -> Int) -> Nat -> Int
 | 0, v => v
 | t + 1, v => zcW (zai W t v) (kS t) (W t)
def state (B : NI) : Nat -> Nat -> Int
 | 0 => hS
 | c + 1 => fun i => add32 (state B c i) (zai (sched (fun j => B (64 * c + j)) 64) 64 (state B c) i)
def zeros (n : Nat) : Nat := (119 - n % 64) % 64
def padL (xs : List Int) : List Int := xs ++ [128] ++ List.replicate (zeros xs.length) 0 ++ zap (xs.length * 8) 8
def za3 (n : Nat) : Nat := (n + 1 + zeros n + 8) / 64
def outL (h : NI) : Nat -> List Int
 | 0 => []
 | i + 1 => outL h i ++ zap (h i) 4
def sumL (xs : List Int) : List Int := outL (state (fun i => (padL xs).getD i 0) (za3 xs.length)) 8
theorem zbc (x : Int) (n : Nat) (w : World) (n1 : n <= 32) :
  Calls prog 159 #[.int .u32 x, .int .i64 (n : Int)] w fun e w' => e = .returned (.int .u32 (rot x n)) /\ ∃ n, w' = w.drewN n := by
 go_enter func159, ntmps159
 go_wp2_with fail
 go_quiet (fail)
 go_wp2
 go_ret
 exact ⟨rfl, _, rfl⟩
theorem ks_any (w : World) : Calls prog 158 #[] w fun e w' => e = .returned (.slice (some ⟨w.heap.size, 0, none⟩) 64 64) /\ w' = w.alloc (.cells (kList.map (Value.int .u32)).toArray 163) := by
 go_enter func158, ntmps158
 go_wp2
 go_ret
 exact ⟨rfl, rfl⟩
def zax (s : ByteArray) : List Int := s.data.toList.map fun b => (b.toNat : Int)
theorem zcq (s : ByteArray) : (zax s).length = s.size := by
 unfold zax
 rw [List.length_map, Array.length_toList]
 rfl
theorem numsOf_str (s : ByteArray) : strOfNums (zax s) = s := by
 have : ∀ l : List UInt8, (l.map fun b => (b.toNat : Int)).map (fun n => UInt8.ofNat n.toNat) = l := by
  intro l
  induction l with
  | nil => rfl
  | cons b l ih => simp only [List.map_cons, ih]; simp
 unfold strOfNums zax
 rw [this]
theorem numsOf_bd (s : ByteArray) : ∀ x ∈ zax s, 0 <= x /\ x <= 255 := by
 intro x hx
 obtain ⟨b, _, rfl⟩ := List.mem_map.1 hx
 have := b.toNat_lt
 omega
def Bts (xs : List Int) : Prop := ∀ x ∈ xs, 0 <= x /\ x <= 255
theorem nums_str {xs : List Int} (h : Bts xs) : zax (strOfNums xs) = xs := by
 unfold zax
 rw [strOfNums_data, List.map_map]
 conv => rhs; rw [<- List.map_id xs]
 refine List.map_congr_left fun x hx => ?_
 have := h x hx
 simp
 omega
theorem zc0 (xs ys : List Int) : strOfNums xs ++ strOfNums ys = strOfNums (xs ++ ys) := by
 apply ByteArray.ext
 simp [strOfNums]
theorem zeL (s : ByteArray) : byteCells s = (zax s).map (Value.int .u8) := by
 simp [byteCells, zax]
theorem byteAt_bd (n : Int) (i : Nat) : 0 <= zbk n i /\ zbk n i <= 255 := by
 unfold zbk
 omega
theorem zbt (n : Int) (k : Nat) : Bts (zap n k) := by
 intro x hx
 obtain ⟨t, _, rfl⟩ := List.mem_map.1 hx
 exact byteAt_bd _ _
theorem zal (n : Int) (k : Nat) : (zap n k).length = k := zdr n k k
theorem came_bytes (w : World) (s : ByteArray) (t : TypeId) (cap : Nat) (h : s.size <= cap) :
  Came (w.alloc (.cells (bytesRow s cap) t ((bytesRow s cap).size, (bytesRow s cap).size + 1))) 1 (some ⟨w.heap.size, 0, none⟩) w.heap.size 0 s.size cap ((zax s).map (Value.int .u8)) := by
 have hsz : (bytesRow s cap).size = cap := by
  unfold bytesRow
  rw [Array.size_append, Array.size_map, Array.size_replicate]
  have : s.data.size = s.size := rfl
  omega
 refine ⟨h, fun _ => rfl, fun _ => by simp, by simp [zcq], fun j u hj => ?_, fun j hj => ⟨?_, ?_⟩⟩
 ·have hj' : j < s.data.size := by
   have := (List.getElem?_eq_some_iff.1 hj).1
   simpa [zax] using this
  rw [Nat.zero_add, World.cell?_alloc_mark, bytesRow_at s cap j hj', <- hj]
  simp [zax, Array.getElem?_eq_getElem hj']
 ·rw [World.cell?_alloc_mark, Array.getElem?_eq_getElem (by rw [hsz]; omega)]
  rfl
 ·rw [World.frozen?_alloc_mark, hsz]
  simp
  omega
def za1 (n : Nat) : Code -> Option Code
 | .block m c => if m = n then some (.block m c) else za1 n c
 | .seq a b => match za1 n a with
  | some c => some c
  | none => za1 n b
 | .loop c => za1 n c
 | .cond _ a b => match za1 n a with
  | some c => some c
  | none => za1 n b
 | _ => none
theorem zdn {W wr : World} {ty : TypeId} {D : NI} {t : Nat} {v : Int} (h : Old W wr /\ wr.rowIs W.heap.size ty 64 (fun j => .int .u32 (sched D t j))) (hv : v = word D (sched D t) t) :
  Old W (wr.setCell ⟨W.heap.size, t, none⟩ (.int .u32 v)) /\ (wr.setCell ⟨W.heap.size, t, none⟩ (.int .u32 v)).rowIs W.heap.size ty 64 (fun j => .int .u32 (sched D (t + 1) j)) := by
 refine ⟨h.1.setCell (Nat.le_refl _) _, (h.2.set t _).congr fun j _ => ?_⟩
 show (if j = t then Value.int .u32 v else .int .u32 (sched D t j)) = .int .u32 (if j = t then word D (sched D t) t else sched D t j)
 split
 ·rw [hv]
 ·rfl
theorem zc6 {w : World} {b t i j : Nat} {x y v : Value} (h : w.cell? ⟨b, i, none⟩ = some x /\ w.cell? ⟨b, j, none⟩ = some y) (hi : t ≠ i) (hj : t ≠ j) : (w.setCell ⟨b, t, none⟩ v).cell? ⟨b, i, none⟩ = some x /\ (w.setCell ⟨b, t, none⟩ v).cell? ⟨b, j, none⟩ = some y := by
 refine ⟨?_, ?_⟩
 ·rw [World.cell?_setCell_other _ _ _ _ (fun e => hi (congrArg Addr.off e))]
  exact h.1
 ·rw [World.cell?_setCell_other _ _ _ _ (fun e => hj (congrArg Addr.off e))]
  exact h.2
theorem add_four (a b c d : Int) : add32 (add32 (add32 a b) c) d = (a + b + c + d) % 4294967296 := by
 unfold add32
 omega
theorem word_low {D : NI} {S : NI} {t : Nat} (h : t < 16) : word D S t = four (D (4 * t)) (D (4 * t + 1)) (D (4 * t + 2)) (D (4 * t + 3)) := by
 unfold word
 rw [if_pos h]
theorem zeD {D : NI} {S : NI} {t : Nat} (h : ¬ t < 16) : word D S t = add32 (add32 (add32 (S (t - 16)) (low0 (S (t - 15)))) (S (t - 7))) (low1 (S (t - 2))) := by
 unfold word
 rw [if_neg h]
theorem words_loop {K : Act -> World -> Prop} {Q' : Exit -> Act -> World -> Prop} (W w0 : World) (B : NI) (g M bc c : Nat) (c0 c1 c2 c3 c4 c9 c10 c11 c12 c13 c14 c15 c16 c17 c18 c19 c20 c21 c22 c23 c24 c25 c26 c27 c28 c29 c30 c31 c32 c33 c34 c35 c36 c37 c38 c39 c40 c41 c42 c43 c44 c45 c46 c47 c48 c49 c50 c51 c52 c53 c54 c55 c56 c57 c58 c59 c60 c61 c62 c63 c64 c65 c66 c67 c68 c69 c70 c71 c72 c73 c74 c75 c76 c77 c78 c79 c80 c81 c82 c83 c84 c85 c86 c87 c88 c89 c90 c91 c92 c93 c94 c95 c96 c97 c98 c99 c100 c101 c102 c103 c104 c105 c106 c107 c108 c109 c110 c111 c112 c113 c114 c115 c116 c117 c118 c119 c120 c121 c122 c123 c124 c125 c126 c127 c128 c129 c130 c131 c132 c133 c134 c135 c136 c137 c138 c139 c140 c141 c142 c143 c144 c145 c146 c147 c148 c149 c150 c151 c152 c153 c154 c155 c156 c157 c158 c159 c160 c161 c162 c163 c164 c165 c166 c167 c168 c169 c170 c171 c172 c173 c174 c175 c176 c177 c178 c179 c180 c181 c182 c183 c184 c185 c186 c187 c188 c189 c190 c191 c192 c193 c194 c195 c196 c197 c198 c199 c200 c201 c202 c203 c204 c205 c206 c207 c208 c209 c210 c211 c212 c213 c214 c215 c216 c217 c218 c219 c220 c221 c222 c223 c224 c225 c226 c227 c228 c229 c230 c231 c232 c233 c234 c235 c236 c237 c238 c239 c240 c241 c242 c243 c244 c245 c246 c247 c248 c249 c250 c251 c252 c253 c254 c255 c256 c257 c258 c259 c260 c261 c262 c263 c264 c265 c266 c267 : Value)
  (hM : 64 * c + 64 <= M) (hM2 : M <= 2000000) (hold : Old W w0) (htext : ∀ j, j < M -> W.cell? ⟨g, j, none⟩ = some (.int .u8 (B j))) (hB : ∀ i, 0 <= B i /\ B i <= 255)
  (hrow : w0.rowIs W.heap.size 163 64 (fun _ => .int .u32 0))
  (hK : ∀ (u8 u9 u10 u11 u47 u48 u49 u50 u51 u52 u53 u54 u55 u56 u57 u58 u59 u60 u61 u62 u63 u64 u65 u66 u67 u68 u69 u70 u71 u72 u73 u74 u75 u76 u77 u78 u79 u80 u81 u82 u83 u84 u85 u86 u87 u88 u89 u90 u91 u92 u93 u94 u95 u96 u97 u98 u99 u100 u101 u102 u103 u104 u105 u106 u107 u108 u109 u110 u111 u112 u113 u114 u115 u116 u117 u118 u119 u120 u121 u122 u123 u124 u125 u126 u127 u128 u129 u130 : Value) (w' : World), Old W w' -> w'.rowIs W.heap.size 163 64 (fun j => .int .u32 (sched (fun j => B (64 * c + j)) 64 j)) -> K ⟨#[c0, c1, c2, c3, c4, .slice (some ⟨g, 0, none⟩) M bc, .int .i64 (64 * (c : Int)), .slice (some ⟨W.heap.size, 0, none⟩) 64 64, u8, u9, u10, u11, c12, c13, c14, c15, c16, c17, c18, c19, c20, c21, c22, c23, c24, c25, c26, c27, c28, c29, c30, c31, c32, c33, c34, c35, c36, c37, c38, c39, c40, c41, c42, c43, c44, c45, c46, u47, u48, u49, u50, u51, u52, u53, u54, u55, u56, u57, u58, u59, u60, u61, u62, u63, u64, u65, u66, u67, u68, u69, u70, u71, u72, u73, u74, u75, u76, u77, u78, u79, u80, u81, u82, u83, u84, u85, u86, u87, u88, u89, u90, u91, u92, u93, u94, u95, u96, u97, u98, u99, u100, u101, u102, u103, u104, u105, u106, u107, u108, u109, u110, u111, u112, u113, u114, u115, u116, u117, u118, u119, u120, u121, u122, u123, u124, u125, u126, u127, u128, u129, u130, c131, c132, c133, c134, c135, c136, c137, c138, c139, c140, c141, c142, c143, c144, c145, c146, c147, c148, c149, c150, c151, c152, c153, c154, c155, c156, c157, c158, c159, c160, c161, c162, c163, c164, c165, c166, c167, c168, c169, c170, c171, c172, c173, c174, c175, c176, c177, c178, c179, c180, c181, c182, c183, c184, c185, c186, c187, c188, c189, c190, c191, c192, c193, c194, c195, c196, c197, c198, c199, c200, c201, c202, c203, c204, c205, c206, c207, c208, c209, c210, c211, c212, c213, c214, c215, c216, c217, c218, c219, c220, c221, c222, c223, c224, c225, c226, c227, c228, c229, c230, c231, c232, c233, c234, c235, c236, c237, c238, c239, c240, c241, c242, c243, c244, c245, c246, c247, c248, c249, c250, c251, c252, c253, c254, c255, c256, c257, c258, c259, c260, c261, c262, c263, c264, c265, c266, c267], []⟩ w') :
  Code.wp prog ((za1 4 (Tryz.f149.body.getD .skip)).getD .skip) (Exit.then K Q') ⟨#[c0, c1, c2, c3, c4, .slice (some ⟨g, 0, none⟩) M bc, .int .i64 (64 * (c : Int)), .slice (some ⟨W.heap.size, 0, none⟩) 64 64, .int .i64 0, c9, c10, c11, c12, c13, c14, c15, c16, c17, c18, c19, c20, c21, c22, c23, c24, c25, c26, c27, c28, c29, c30, c31, c32, c33, c34, c35, c36, c37, c38, c39, c40, c41, c42, c43, c44, c45, c46, c47, c48, c49, c50, c51, c52, c53, c54, c55, c56, c57, c58, c59, c60, c61, c62, c63, c64, c65, c66, c67, c68, c69, c70, c71, c72, c73, c74, c75, c76, c77, c78, c79, c80, c81, c82, c83, c84, c85, c86, c87, c88, c89, c90, c91, c92, c93, c94, c95, c96, c97, c98, c99, c100, c101, c102, c103, c104, c105, c106, c107, c108, c109, c110, c111, c112, c113, c114, c115, c116, c117, c118, c119, c120, c121, c122, c123, c124, c125, c126, c127, c128, c129, c130, c131, c132, c133, c134, c135, c136, c137, c138, c139, c140, c141, c142, c143, c144, c145, c146, c147, c148, c149, c150, c151, c152, c153, c154, c155, c156, c157, c158, c159, c160, c161, c162, c163, c164, c165, c166, c167, c168, c169, c170, c171, c172, c173, c174, c175, c176, c177, c178, c179, c180, c181, c182, c183, c184, c185, c186, c187, c188, c189, c190, c191, c192, c193, c194, c195, c196, c197, c198, c199, c200, c201, c202, c203, c204, c205, c206, c207, c208, c209, c210, c211, c212, c213, c214, c215, c216, c217, c218, c219, c220, c221, c222, c223, c224, c225, c226, c227, c228, c229, c230, c231, c232, c233, c234, c235, c236, c237, c238, c239, c240, c241, c242, c243, c244, c245, c246, c247, c248, c249, c250, c251, c252, c253, c254, c255, c256, c257, c258, c259, c260, c261, c262, c263, c264, c265, c266, c267], []⟩ w0 := by
 conv => arg 2; whnf
 have HT := hid htext
 have HB := hid hB
 have HK := hid hK
 have HG : Hid (g ≠ W.heap.size) := by
  have := World.block_lt_of_cell? _ _ (HT.out 0 (by omega))
  exact Nat.ne_of_lt this
 have H0 : Hid (Old W w0 /\ w0.rowIs W.heap.size 163 64 (fun _ => .int .u32 0)) := ⟨hold, hrow⟩
 clear htext hB hK hold hrow
 go_wp2_with fail
 go_loopw [8] (fun tv wx => ∃ t : Nat, tv = .int .i64 (t : Int) /\ t <= 64 /\ Hid (Old W wx /\ wx.rowIs W.heap.size 163 64 (fun j => .int .u32 (sched (fun j => B (64 * c + j)) t j)))) (fun tv _ => 64 - (intOf tv).toNat)
 case atStart => exact ⟨0, rfl, Nat.zero_le _, H0⟩
 case round =>
  obtain ⟨t, rfl, ht, HR⟩ := hrel
  by_cases hlt : t < 64
  ·have cT : ∀ j, j < M -> wr.cell? ⟨g, j, none⟩ = some (.int .u8 (B j)) := fun j hj => HR.out.1.cellOf (HT.out j hj)
   have fz := HR.out.2.frozen t
   have ct := HR.out.2.cell hlt
   by_cases h16 : t < 16
   ·have b0 := cT (64 * c + 4 * t) (by omega)
    have b1 := cT (64 * c + 4 * t + 1) (by omega)
    have b2 := cT (64 * c + 4 * t + 2) (by omega)
    have b3 := cT (64 * c + 4 * t + 3) (by omega)
    clear cT
    obtain ⟨x0, y0⟩ := HB.out (64 * c + 4 * t)
    obtain ⟨x1, y1⟩ := HB.out (64 * c + 4 * t + 1)
    obtain ⟨x2, y2⟩ := HB.out (64 * c + 4 * t + 2)
    obtain ⟨x3, y3⟩ := HB.out (64 * c + 4 * t + 3)
    go_wp2_with fail
    have hgw : g ≠ W.heap.size := HG.out
    have hgw' : W.heap.size ≠ g := fun h => hgw h.symm
    have ei : 64 * (c : Int) + 4 * (t : Int) = ((64 * c + 4 * t : Nat) : Int) := by omega
    simp only [ei]
    have HV : Hid (word (fun j => B (64 * c + j)) (sched (fun j => B (64 * c + j)) t) t = four (B (64 * c + 4 * t)) (B (64 * c + 4 * t + 1)) (B (64 * c + 4 * t + 2)) (B (64 * c + 4 * t + 3))) := word_low h16
    generalize 64 * c + 4 * t = i at *
    have i0 : (0 : Int) <= (i : Int) := by omega
    have i3 : (i : Int) + 3 < (M : Int) := by omega
    have i2 : (i : Int) + 2 < (M : Int) := by omega
    have i1 : (i : Int) + 1 < (M : Int) := by omega
    have ii : (i : Int) < (M : Int) := by omega
    have w1 : IntKind.i64.wrap ((i : Int) + 1) = (i : Int) + 1 := by rw [IntKind.wrap_i64]; omega
    have w2 : IntKind.i64.wrap ((i : Int) + 2) = (i : Int) + 2 := by rw [IntKind.wrap_i64]; omega
    have w3 : IntKind.i64.wrap ((i : Int) + 3) = (i : Int) + 3 := by rw [IntKind.wrap_i64]; omega
    have n1 : (0 : Int) <= (i : Int) + 1 := by omega
    have n2 : (0 : Int) <= (i : Int) + 2 := by omega
    have n3 : (0 : Int) <= (i : Int) + 3 := by omega
    have t1 : ((i : Int) + 1).toNat = i + 1 := by omega
    have t2 : ((i : Int) + 2).toNat = i + 2 := by omega
    have t3 : ((i : Int) + 3).toNat = i + 3 := by omega
    have tt : (t : Int) < 64 := by omega
    have v0 : IntKind.u32.wrap (B i) = B i := by rw [IntKind.wrap_u32']; omega
    have v1 : IntKind.u32.wrap (B (i + 1)) = B (i + 1) := by rw [IntKind.wrap_u32']; omega
    have v2 : IntKind.u32.wrap (B (i + 2)) = B (i + 2) := by rw [IntKind.wrap_u32']; omega
    have v3 : IntKind.u32.wrap (B (i + 3)) = B (i + 3) := by rw [IntKind.wrap_u32']; omega
    have z0 : IntKind.u32.wrap (B i * 16777216) = B i * 16777216 := by rw [IntKind.wrap_u32']; omega
    have z1 : IntKind.u32.wrap (B (i + 1) * 65536) = B (i + 1) * 65536 := by rw [IntKind.wrap_u32']; omega
    have z2 : IntKind.u32.wrap (B (i + 2) * 256) = B (i + 2) * 256 := by rw [IntKind.wrap_u32']; omega
    clear hM2 hM ei
    go_region_held3 (fun w' => w'.cell? ⟨g, i, none⟩ = some (.int .u8 (B i)) /\ w'.cell? ⟨g, i + 1, none⟩ = some (.int .u8 (B (i + 1))) /\ w'.cell? ⟨g, i + 2, none⟩ = some (.int .u8 (B (i + 2))) /\ w'.cell? ⟨g, i + 3, none⟩ = some (.int .u8 (B (i + 3)))) (go_keep) (fail)
    go_wp2_with fail
    go_roundw
    case rel => exact ⟨t + 1, by go_num, by omega, (zdn HR.out HV.out.symm).1.drew, (zdn HR.out HV.out.symm).2⟩
    case measure => simp [intOf]; omega
   ·clear cT
    have c16 := HR.out.2.cell (i := t - 16) (by omega)
    have c15 := HR.out.2.cell (i := t - 15) (by omega)
    have c7 := HR.out.2.cell (i := t - 7) (by omega)
    have c2 := HR.out.2.cell (i := t - 2) (by omega)
    have HV : Hid (word (fun j => B (64 * c + j)) (sched (fun j => B (64 * c + j)) t) t = _) := zeD h16
    generalize sched (fun j => B (64 * c + j)) t (t - 16) = s16 at *
    generalize sched (fun j => B (64 * c + j)) t (t - 15) = s15 at *
    generalize sched (fun j => B (64 * c + j)) t (t - 7) = s7 at *
    generalize sched (fun j => B (64 * c + j)) t (t - 2) = s2 at *
    go_wp2_with fail
    have e16 : ((t : Int) - 16).toNat = t - 16 := by omega
    have e7 : ((t : Int) - 7).toNat = t - 7 := by omega
    have f16 : IntKind.i64.wrap ((t : Int) - 16) = (t : Int) - 16 := by rw [IntKind.wrap_i64]; omega
    have f7 : IntKind.i64.wrap ((t : Int) - 7) = (t : Int) - 7 := by rw [IntKind.wrap_i64]; omega
    have g16 : (0 : Int) <= (t : Int) - 16 := by omega
    have g7 : (0 : Int) <= (t : Int) - 7 := by omega
    have k16 : (t : Int) - 16 < 64 := by omega
    have k7 : (t : Int) - 7 < 64 := by omega
    have tt : (t : Int) < 64 := by omega
    have p7 : (7 : Int) <= (t : Int) := by omega
    have q7 : (t : Int) < 71 := by omega
    have q16 : (t : Int) < 80 := by omega
    clear hM2 hM c15 c2
    go_region_held3 (fun w' => w'.cell? ⟨W.heap.size, t - 16, none⟩ = some (.int .u32 s16) /\ w'.cell? ⟨W.heap.size, t - 7, none⟩ = some (.int .u32 s7)) (first | go_keep | exact zc6 (by assumption) (by omega) (by omega)) (first
     | (go_at_call_of 159 (Value.int IntKind.i64 7); refine (zbc _ 7 _ (by omega)).mono ?_; rintro e w' ⟨rfl, nd, rfl⟩)
     | (go_at_call_of 159 (Value.int IntKind.i64 18); refine (zbc _ 18 _ (by omega)).mono ?_; rintro e w' ⟨rfl, nd, rfl⟩)
     | (go_at_call_of 159 (Value.int IntKind.i64 17); refine (zbc _ 17 _ (by omega)).mono ?_; rintro e w' ⟨rfl, nd, rfl⟩)
     | (go_at_call_of 159 (Value.int IntKind.i64 19); refine (zbc _ 19 _ (by omega)).mono ?_; rintro e w' ⟨rfl, nd, rfl⟩))
    simp only [IntKind.wrap_u32']
    go_wp2_with fail
    go_roundw
    case rel => exact ⟨t + 1, by go_num, by omega, zdn ⟨HR.out.1.drewN _, HR.out.2⟩ (by rw [HV.out, add_four]; rfl)⟩
    case measure => simp [intOf]; omega
  ·have he : t = 64 := by omega
   subst he
   go_wp2_with fail
   exact HK.out _ _ _ _ _ _ _ _ _ _ _ _ _ _ _ _ _ _ _ _ _ _ _ _ _ _ _ _ _ _ _ _ _ _ _ _ _ _ _ _ _ _ _ _ _ _ _ _ _ _ _ _ _ _ _ _ _ _ _ _ _ _ _ _ _ _ _ _ _ _ _ _ _ _ _ _ _ _ _ _ _ _ _ _ _ _ _ _ _ HR.out.1 HR.out.2
theorem one_eq (a b c d e : Int) : (a + b + c + d + e) % 4294967296 = add32 (add32 (add32 (add32 a b) c) d) e := by
 unfold add32
 omega
def turned (wr : World) (b : Nat) (x0 x1 x2 x3 x4 x5 x6 x7 : Value) : World :=
 (((((((wr.setCell ⟨b, 0, none⟩ x0).setCell ⟨b, 1, none⟩ x1).setCell ⟨b, 2, none⟩ x2).setCell ⟨b, 3, none⟩ x3).setCell ⟨b, 4, none⟩ x4).setCell ⟨b, 5, none⟩ x5).setCell ⟨b, 6, none⟩ x6).setCell ⟨b, 7, none⟩ x7
theorem zeR {wr : World} {b : Nat} {T : TypeId} {g : Nat -> Value} (h : wr.rowIs b T 8 g) (f : Nat -> Value) : (turned wr b (f 0) (f 1) (f 2) (f 3) (f 4) (f 5) (f 6) (f 7)).rowIs b T 8 f := by
 refine ((((((((h.set 0 _).set 1 _).set 2 _).set 3 _).set 4 _).set 5 _).set 6 _).set 7 _).congr fun i hi => ?_
 match i, hi with
 | 0, _ => rfl
 | 1, _ => rfl
 | 2, _ => rfl
 | 3, _ => rfl
 | 4, _ => rfl
 | 5, _ => rfl
 | 6, _ => rfl
 | 7, _ => rfl
theorem zfk {W wr : World} {b : Nat} (h : Old W wr) (hb : W.heap.size <= b) (x0 x1 x2 x3 x4 x5 x6 x7 : Value) : Old W (turned wr b x0 x1 x2 x3 x4 x5 x6 x7) :=
 (((((((h.setCell hb _).setCell hb _).setCell hb _).setCell hb _).setCell hb _).setCell hb _).setCell hb _).setCell hb _
theorem rounds_step {W wr : World} {T : TypeId} {r : NI} {kk ww o p : Int} (h : Old W wr /\ wr.rowIs W.heap.size T 8 (fun i => .int .u32 (r i))) (ho : o = one32 r kk ww) (hp : p = two32 r) :
  Old W (turned wr W.heap.size (.int .u32 ((o + p) % 4294967296)) (.int .u32 (r 0)) (.int .u32 (r 1)) (.int .u32 (r 2)) (.int .u32 ((r 3 + o) % 4294967296)) (.int .u32 (r 4)) (.int .u32 (r 5)) (.int .u32 (r 6))) /\
  (turned wr W.heap.size (.int .u32 ((o + p) % 4294967296)) (.int .u32 (r 0)) (.int .u32 (r 1)) (.int .u32 (r 2)) (.int .u32 ((r 3 + o) % 4294967296)) (.int .u32 (r 4)) (.int .u32 (r 5)) (.int .u32 (r 6))).rowIs W.heap.size T 8 (fun i => .int .u32 (zcW r kk ww i)) := by
 subst ho hp
 exact ⟨zfk h.1 (Nat.le_refl _) _ _ _ _ _ _ _ _, zeR h.2 (fun i => .int .u32 (zcW r kk ww i))⟩
theorem rounds_loop {K : Act -> World -> Prop} {Q' : Exit -> Act -> World -> Prop} (W w0 : World) (D v : NI) (T : TypeId) (bk bw : Nat) (c0 c1 c2 c3 c5 c6 c8 c9 c10 c11 c14 c15 c16 c17 c18 c19 c20 c21 c22 c23 c24 c25 c26 c27 c28 c29 c30 c31 c32 c33 c34 c35 c36 c37 c38 c39 c40 c41 c42 c43 c44 c45 c46 c47 c48 c49 c50 c51 c52 c53 c54 c55 c56 c57 c58 c59 c60 c61 c62 c63 c64 c65 c66 c67 c68 c69 c70 c71 c72 c73 c74 c75 c76 c77 c78 c79 c80 c81 c82 c83 c84 c85 c86 c87 c88 c89 c90 c91 c92 c93 c94 c95 c96 c97 c98 c99 c100 c101 c102 c103 c104 c105 c106 c107 c108 c109 c110 c111 c112 c113 c114 c115 c116 c117 c118 c119 c120 c121 c122 c123 c124 c125 c126 c127 c128 c129 c130 c131 c132 c133 c134 c135 c136 c137 c138 c139 c140 c141 c142 c143 c144 c145 c146 c147 c148 c149 c150 c151 c152 c153 c154 c155 c156 c157 c158 c159 c160 c161 c162 c163 c164 c165 c166 c167 c168 c169 c170 c171 c172 c173 c174 c175 c176 c177 c178 c179 c180 c181 c182 c183 c184 c185 c186 c187 c188 c189 c190 c191 c192 c193 c194 c195 c196 c197 c198 c199 c200 c201 c202 c203 c204 c205 c206 c207 c208 c209 c210 c211 c212 c213 c214 c215 c216 c217 c218 c219 c220 c221 c222 c223 c224 c225 c226 c227 c228 c229 c230 c231 c232 c233 c234 c235 c236 c237 c238 c239 c240 c241 c242 c243 c244 c245 c246 c247 c248 c249 c250 c251 c252 c253 c254 c255 c256 c257 c258 c259 c260 c261 c262 c263 c264 c265 c266 c267 : Value)
  (hold : Old W w0) (hkr : W.rowIs bk 163 64 (fun i => .int .u32 (kS i))) (hwr : W.rowIs bw 163 64 (fun i => .int .u32 (D i)))
  (hrow : w0.rowIs W.heap.size T 8 (fun i => .int .u32 (v i)))
  (hK : ∀ (u13 u14 u15 u16 u17 u156 u157 u158 u159 u160 u161 u162 u163 u164 u165 u166 u167 u168 u169 u170 u171 u172 u173 u174 u175 u176 u177 u178 u179 u180 u181 u182 u183 u184 u185 u186 u187 u188 u189 u190 u191 u192 u193 u194 u195 u196 u197 u198 u199 u200 u201 u202 u203 u204 u205 u206 u207 u208 u209 u210 u211 u212 u213 u214 u215 u216 u217 u218 u219 u220 u221 u222 u223 u224 u225 u226 u227 u228 u229 u230 u231 u232 u233 u234 u235 u236 u237 u238 u239 : Value) (w' : World), Old W w' -> w'.rowIs W.heap.size T 8 (fun i => .int .u32 (zai D 64 v i)) -> K ⟨#[c0, c1, c2, c3, .slice (some ⟨bk, 0, none⟩) 64 64, c5, c6, .slice (some ⟨bw, 0, none⟩) 64 64, c8, c9, c10, c11, .pointer (some ⟨W.heap.size, 0, none⟩), u13, u14, u15, u16, u17, c18, c19, c20, c21, c22, c23, c24, c25, c26, c27, c28, c29, c30, c31, c32, c33, c34, c35, c36, c37, c38, c39, c40, c41, c42, c43, c44, c45, c46, c47, c48, c49, c50, c51, c52, c53, c54, c55, c56, c57, c58, c59, c60, c61, c62, c63, c64, c65, c66, c67, c68, c69, c70, c71, c72, c73, c74, c75, c76, c77, c78, c79, c80, c81, c82, c83, c84, c85, c86, c87, c88, c89, c90, c91, c92, c93, c94, c95, c96, c97, c98, c99, c100, c101, c102, c103, c104, c105, c106, c107, c108, c109, c110, c111, c112, c113, c114, c115, c116, c117, c118, c119, c120, c121, c122, c123, c124, c125, c126, c127, c128, c129, c130, c131, c132, c133, c134, c135, c136, c137, c138, c139, c140, c141, c142, c143, c144, c145, c146, c147, c148, c149, c150, c151, c152, c153, c154, c155, u156, u157, u158, u159, u160, u161, u162, u163, u164, u165, u166, u167, u168, u169, u170, u171, u172, u173, u174, u175, u176, u177, u178, u179, u180, u181, u182, u183, u184, u185, u186, u187, u188, u189, u190, u191, u192, u193, u194, u195, u196, u197, u198, u199, u200, u201, u202, u203, u204, u205, u206, u207, u208, u209, u210, u211, u212, u213, u214, u215, u216, u217, u218, u219, u220, u221, u222, u223, u224, u225, u226, u227, u228, u229, u230, u231, u232, u233, u234, u235, u236, u237, u238, u239, c240, c241, c242, c243, c244, c245, c246, c247, c248, c249, c250, c251, c252, c253, c254, c255, c256, c257, c258, c259, c260, c261, c262, c263, c264, c265, c266, c267], []⟩ w') :
  Code.wp prog ((za1 6 (Tryz.f149.body.getD .skip)).getD .skip) (Exit.then K Q') ⟨#[c0, c1, c2, c3, .slice (some ⟨bk, 0, none⟩) 64 64, c5, c6, .slice (some ⟨bw, 0, none⟩) 64 64, c8, c9, c10, c11, .pointer (some ⟨W.heap.size, 0, none⟩), .int .i64 0, c14, c15, c16, c17, c18, c19, c20, c21, c22, c23, c24, c25, c26, c27, c28, c29, c30, c31, c32, c33, c34, c35, c36, c37, c38, c39, c40, c41, c42, c43, c44, c45, c46, c47, c48, c49, c50, c51, c52, c53, c54, c55, c56, c57, c58, c59, c60, c61, c62, c63, c64, c65, c66, c67, c68, c69, c70, c71, c72, c73, c74, c75, c76, c77, c78, c79, c80, c81, c82, c83, c84, c85, c86, c87, c88, c89, c90, c91, c92, c93, c94, c95, c96, c97, c98, c99, c100, c101, c102, c103, c104, c105, c106, c107, c108, c109, c110, c111, c112, c113, c114, c115, c116, c117, c118, c119, c120, c121, c122, c123, c124, c125, c126, c127, c128, c129, c130, c131, c132, c133, c134, c135, c136, c137, c138, c139, c140, c141, c142, c143, c144, c145, c146, c147, c148, c149, c150, c151, c152, c153, c154, c155, c156, c157, c158, c159, c160, c161, c162, c163, c164, c165, c166, c167, c168, c169, c170, c171, c172, c173, c174, c175, c176, c177, c178, c179, c180, c181, c182, c183, c184, c185, c186, c187, c188, c189, c190, c191, c192, c193, c194, c195, c196, c197, c198, c199, c200, c201, c202, c203, c204, c205, c206, c207, c208, c209, c210, c211, c212, c213, c214, c215, c216, c217, c218, c219, c220, c221, c222, c223, c224, c225, c226, c227, c228, c229, c230, c231, c232, c233, c234, c235, c236, c237, c238, c239, c240, c241, c242, c243, c244, c245, c246, c247, c248, c249, c250, c251, c252, c253, c254, c255, c256, c257, c258, c259, c260, c261, c262, c263, c264, c265, c266, c267], []⟩ w0 := by
 conv => arg 2; whnf
 have HK := hid hK
 have HA : Hid (W.rowIs bk 163 64 (fun i => .int .u32 (kS i)) /\ W.rowIs bw 163 64 (fun i => .int .u32 (D i))) := ⟨hkr, hwr⟩
 have H0 : Hid (Old W w0 /\ w0.rowIs W.heap.size T 8 (fun i => .int .u32 (v i))) := ⟨hold, hrow⟩
 clear hK hold hrow hkr hwr
 go_wp2_with fail
 go_loopw [13] (fun tv wx => ∃ t : Nat, tv = .int .i64 (t : Int) /\ t <= 64 /\ Hid (Old W wx /\ wx.rowIs W.heap.size T 8 (fun i => .int .u32 (zai D t v i)))) (fun tv _ => 64 - (intOf tv).toNat)
 case atStart => exact ⟨0, rfl, Nat.zero_le _, H0⟩
 case round =>
  obtain ⟨t, rfl, ht, HR⟩ := hrel
  by_cases hlt : t < 64
  ·have kt := (HR.out.1.row HA.out.1).cell hlt
   have wt := (HR.out.1.row HA.out.2).cell hlt
   have x0 := HR.out.2.cell (i := 0) (by omega)
   have x1 := HR.out.2.cell (i := 1) (by omega)
   have x2 := HR.out.2.cell (i := 2) (by omega)
   have x3 := HR.out.2.cell (i := 3) (by omega)
   have x4 := HR.out.2.cell (i := 4) (by omega)
   have x5 := HR.out.2.cell (i := 5) (by omega)
   have x6 := HR.out.2.cell (i := 6) (by omega)
   have x7 := HR.out.2.cell (i := 7) (by omega)
   have z0 := HR.out.2.frozen 0
   have z1 := HR.out.2.frozen 1
   have z2 := HR.out.2.frozen 2
   have z3 := HR.out.2.frozen 3
   have z4 := HR.out.2.frozen 4
   have z5 := HR.out.2.frozen 5
   have z6 := HR.out.2.frozen 6
   have z7 := HR.out.2.frozen 7
   have HV : Hid (∀ i, zai D (t + 1) v i = zcW (zai D t v) (kS t) (D t) i) := fun _ => rfl
   generalize kS t = kk at *
   generalize D t = ww at *
   have hr : ∃ r, r = zai D t v := ⟨_, rfl⟩
   obtain ⟨r, hr⟩ := hr
   rw [<- hr] at HR HV x0 x1 x2 x3 x4 x5 x6 x7
   clear hr
   have tt : (t : Int) < 64 := by omega
   have t0 : (0 : Int) <= (t : Int) := by omega
   go_upto_region 26 with fail
   go_cut [16] from 156 to 239 (fun ov wx => ov = .int .u32 (one32 r kk ww) /\ ∃ n, wx = wr.drewN n)
   case first =>
    go_quiet (first
     | (go_at_call_of 159 (Value.int IntKind.i64 6); exact Calls.quiet_of (zbc _ 6 _ (by omega)))
     | (go_at_call_of 159 (Value.int IntKind.i64 11); exact Calls.quiet_of (zbc _ 11 _ (by omega)))
     | (go_at_call_of 159 (Value.int IntKind.i64 25); exact Calls.quiet_of (zbc _ 25 _ (by omega))))
    go_wp2_with fail
    go_meet
    case rel => exact ⟨congrArg (Value.int .u32) (one_eq (r 7) (big1 (r 4)) (pick (r 4) (r 5) (r 6)) kk ww), _, rfl⟩
   obtain ⟨rfl, nd, rfl⟩ := hcut
   have HO : Hid (∃ o, o = one32 r kk ww) := ⟨_, rfl⟩
   obtain ⟨o, ho⟩ := HO.out
   rw [<- ho]
   have HO := hid ho
   clear ho
   go_upto_region 27 with fail
   obtain ⟨wy, hwy⟩ : ∃ x, x = wr.drewN nd := ⟨_, rfl⟩
   have y0 : wy.cell? ⟨W.heap.size, 0, none⟩ = some (.int .u32 (r 0)) := by rw [hwy]; exact x0
   have y1 : wy.cell? ⟨W.heap.size, 1, none⟩ = some (.int .u32 (r 1)) := by rw [hwy]; exact x1
   have y2 : wy.cell? ⟨W.heap.size, 2, none⟩ = some (.int .u32 (r 2)) := by rw [hwy]; exact x2
   rw [<- hwy]
   have HW := hid hwy
   clear hwy
   go_cut [17] from 156 to 239 (fun ov wx => ov = .int .u32 (two32 r) /\ ∃ n, wx = wy.drewN n)
   case first =>
    go_quiet (first
     | (go_at_call_of 159 (Value.int IntKind.i64 2); exact Calls.quiet_of (zbc _ 2 _ (by omega)))
     | (go_at_call_of 159 (Value.int IntKind.i64 13); exact Calls.quiet_of (zbc _ 13 _ (by omega)))
     | (go_at_call_of 159 (Value.int IntKind.i64 22); exact Calls.quiet_of (zbc _ 22 _ (by omega))))
    go_wp2_with fail
    go_meet
    case rel => exact ⟨rfl, _, rfl⟩
   obtain ⟨rfl, nd2, rfl⟩ := hcut
   have HP : Hid (∃ p, p = two32 r) := ⟨_, rfl⟩
   obtain ⟨p, hp⟩ := HP.out
   rw [<- hp]
   have HP := hid hp
   clear hp
   have HE : Hid (wy.drewN nd2 = wr.drewN (nd + nd2)) := by rw [HW.out]; exact World.drewN_drewN wr nd nd2
   rw [HE.out]
   clear y0 y1 y2 HW HE
   go_wp2_with fail
   go_roundw
   case rel => exact ⟨t + 1, by go_num, by omega, by
    have hs := rounds_step (T := T) (kk := kk) (ww := ww) ⟨HR.out.1.drewN (nd + nd2), HR.out.2⟩ HO.out HP.out
    exact ⟨hs.1, hs.2.congr fun i _ => by rw [HV.out i]⟩⟩
   case measure => simp [intOf]; omega
  ·have he : t = 64 := by omega
   subst he
   go_wp2_with fail
   exact HK.out _ _ _ _ _ _ _ _ _ _ _ _ _ _ _ _ _ _ _ _ _ _ _ _ _ _ _ _ _ _ _ _ _ _ _ _ _ _ _ _ _ _ _ _ _ _ _ _ _ _ _ _ _ _ _ _ _ _ _ _ _ _ _ _ _ _ _ _ _ _ _ _ _ _ _ _ _ _ _ _ _ _ _ _ _ _ _ _ _ _ HR.out.1 HR.out.2
structure But (b : Nat) (w w' : World) : Prop where
 os : w'.os = w.os
 output : w'.output = w.output
 size : w'.heap.size = w.heap.size
 block : ∀ k, k ≠ b -> w'.heap[k]? = w.heap[k]?
theorem But.refl (b : Nat) (w : World) : But b w w := ⟨rfl, rfl, rfl, fun _ _ => rfl⟩
theorem But.set {b : Nat} {w w' : World} (h : But b w w') (i : Nat) (v : Value) : But b w (w'.setCell ⟨b, i, none⟩ v) :=
 ⟨h.os, h.output, by simpa [World.setCell] using h.size, fun k hk => (Below.heap_setCell _ _ _ _ hk).trans (h.block k hk)⟩
theorem But.drew {b : Nat} {w w' : World} (h : But b w w') : But b w w'.drew := ⟨h.os, h.output, h.size, h.block⟩
theorem But.row {b : Nat} {w w' : World} (h : But b w w') {k : Nat} {t : TypeId} {n : Nat} {f : Nat -> Value} (hr : w.rowIs k t n f) (hk : k ≠ b) : w'.rowIs k t n f := hr.of_block (h.block k hk)
theorem But.cell {b : Nat} {w w' : World} (h : But b w w') {p : Addr} (hp : p.block ≠ b) : w'.cell? p = w.cell? p := World.cell?_of_block (w := w) (h.block p.block hp)
theorem Old.but {a b : World} {k : Nat} {c : World} (h : Old a b) (hb : But k b c) (hk : a.heap.size <= k) : Old a c :=
 ⟨hb.os.trans h.os, hb.output.trans h.output, by rw [hb.size]; exact h.size, fun i hi => (hb.block i (by omega)).trans (h.block i hi)⟩
theorem adds_step {b : Nat} {w wr : World} {ty : TypeId} {h v : NI} {t : Nat} {x : Int} (hr : But b w wr /\ wr.rowIs b ty 8 (fun j => .int .u32 (if j < t then add32 (h j) (v j) else h j))) (hx : x = add32 (h t) (v t)) :
  But b w (wr.setCell ⟨b, t, none⟩ (.int .u32 x)) /\ (wr.setCell ⟨b, t, none⟩ (.int .u32 x)).rowIs b ty 8 (fun j => .int .u32 (if j < t + 1 then add32 (h j) (v j) else h j)) := by
 refine ⟨hr.1.set t _, (hr.2.set t _).congr fun j _ => ?_⟩
 by_cases he : j = t
 ·subst he
  rw [hx]
  simp
 ·by_cases hl : j < t
  ·simp [he, hl, show j < t + 1 by omega]
  ·simp [he, hl, show ¬ j < t + 1 by omega]
theorem adds_loop {Q : Exit -> Act -> World -> Prop} (w0 : World) (h v : NI) (T : TypeId) (bh bv : Nat) (c0 c1 c2 c4 c5 c6 c7 c8 c9 c10 c11 c13 c14 c15 c16 c17 c19 c20 c21 c22 c23 c24 c25 c26 c27 c28 c29 c30 c31 c32 c33 c34 c35 c36 c37 c38 c39 c40 c41 c42 c43 c44 c45 c46 c47 c48 c49 c50 c51 c52 c53 c54 c55 c56 c57 c58 c59 c60 c61 c62 c63 c64 c65 c66 c67 c68 c69 c70 c71 c72 c73 c74 c75 c76 c77 c78 c79 c80 c81 c82 c83 c84 c85 c86 c87 c88 c89 c90 c91 c92 c93 c94 c95 c96 c97 c98 c99 c100 c101 c102 c103 c104 c105 c106 c107 c108 c109 c110 c111 c112 c113 c114 c115 c116 c117 c118 c119 c120 c121 c122 c123 c124 c125 c126 c127 c128 c129 c130 c131 c132 c133 c134 c135 c136 c137 c138 c139 c140 c141 c142 c143 c144 c145 c146 c147 c148 c149 c150 c151 c152 c153 c154 c155 c156 c157 c158 c159 c160 c161 c162 c163 c164 c165 c166 c167 c168 c169 c170 c171 c172 c173 c174 c175 c176 c177 c178 c179 c180 c181 c182 c183 c184 c185 c186 c187 c188 c189 c190 c191 c192 c193 c194 c195 c196 c197 c198 c199 c200 c201 c202 c203 c204 c205 c206 c207 c208 c209 c210 c211 c212 c213 c214 c215 c216 c217 c218 c219 c220 c221 c222 c223 c224 c225 c226 c227 c228 c229 c230 c231 c232 c233 c234 c235 c236 c237 c238 c239 c240 c241 c242 c243 c244 c245 c246 c247 c248 c249 c250 c251 c252 c253 c254 c255 c256 c257 c258 c259 c260 c261 c262 c263 c264 c265 c266 c267 : Value)
  (hne : bv ≠ bh) (hh : w0.rowIs bh 163 8 (fun i => .int .u32 (h i))) (hv : w0.rowIs bv T 8 (fun i => .int .u32 (v i)))
  (hK : ∀ (u18 u240 u241 u242 u243 u244 u245 u246 u247 u248 u249 u250 u251 u252 u253 u254 : Value) (w' : World), But bh w0 w' -> w'.rowIs bh 163 8 (fun i => .int .u32 (add32 (h i) (v i))) -> Q .normal ⟨#[c0, c1, c2, .slice (some ⟨bh, 0, none⟩) 8 8, c4, c5, c6, c7, c8, c9, c10, c11, .pointer (some ⟨bv, 0, none⟩), c13, c14, c15, c16, c17, u18, c19, c20, c21, c22, c23, c24, c25, c26, c27, c28, c29, c30, c31, c32, c33, c34, c35, c36, c37, c38, c39, c40, c41, c42, c43, c44, c45, c46, c47, c48, c49, c50, c51, c52, c53, c54, c55, c56, c57, c58, c59, c60, c61, c62, c63, c64, c65, c66, c67, c68, c69, c70, c71, c72, c73, c74, c75, c76, c77, c78, c79, c80, c81, c82, c83, c84, c85, c86, c87, c88, c89, c90, c91, c92, c93, c94, c95, c96, c97, c98, c99, c100, c101, c102, c103, c104, c105, c106, c107, c108, c109, c110, c111, c112, c113, c114, c115, c116, c117, c118, c119, c120, c121, c122, c123, c124, c125, c126, c127, c128, c129, c130, c131, c132, c133, c134, c135, c136, c137, c138, c139, c140, c141, c142, c143, c144, c145, c146, c147, c148, c149, c150, c151, c152, c153, c154, c155, c156, c157, c158, c159, c160, c161, c162, c163, c164, c165, c166, c167, c168, c169, c170, c171, c172, c173, c174, c175, c176, c177, c178, c179, c180, c181, c182, c183, c184, c185, c186, c187, c188, c189, c190, c191, c192, c193, c194, c195, c196, c197, c198, c199, c200, c201, c202, c203, c204, c205, c206, c207, c208, c209, c210, c211, c212, c213, c214, c215, c216, c217, c218, c219, c220, c221, c222, c223, c224, c225, c226, c227, c228, c229, c230, c231, c232, c233, c234, c235, c236, c237, c238, c239, u240, u241, u242, u243, u244, u245, u246, u247, u248, u249, u250, u251, u252, u253, u254, c255, c256, c257, c258, c259, c260, c261, c262, c263, c264, c265, c266, c267], []⟩ w') :
  Code.wp prog ((za1 8 (Tryz.f149.body.getD .skip)).getD .skip) Q ⟨#[c0, c1, c2, .slice (some ⟨bh, 0, none⟩) 8 8, c4, c5, c6, c7, c8, c9, c10, c11, .pointer (some ⟨bv, 0, none⟩), c13, c14, c15, c16, c17, .int .i64 0, c19, c20, c21, c22, c23, c24, c25, c26, c27, c28, c29, c30, c31, c32, c33, c34, c35, c36, c37, c38, c39, c40, c41, c42, c43, c44, c45, c46, c47, c48, c49, c50, c51, c52, c53, c54, c55, c56, c57, c58, c59, c60, c61, c62, c63, c64, c65, c66, c67, c68, c69, c70, c71, c72, c73, c74, c75, c76, c77, c78, c79, c80, c81, c82, c83, c84, c85, c86, c87, c88, c89, c90, c91, c92, c93, c94, c95, c96, c97, c98, c99, c100, c101, c102, c103, c104, c105, c106, c107, c108, c109, c110, c111, c112, c113, c114, c115, c116, c117, c118, c119, c120, c121, c122, c123, c124, c125, c126, c127, c128, c129, c130, c131, c132, c133, c134, c135, c136, c137, c138, c139, c140, c141, c142, c143, c144, c145, c146, c147, c148, c149, c150, c151, c152, c153, c154, c155, c156, c157, c158, c159, c160, c161, c162, c163, c164, c165, c166, c167, c168, c169, c170, c171, c172, c173, c174, c175, c176, c177, c178, c179, c180, c181, c182, c183, c184, c185, c186, c187, c188, c189, c190, c191, c192, c193, c194, c195, c196, c197, c198, c199, c200, c201, c202, c203, c204, c205, c206, c207, c208, c209, c210, c211, c212, c213, c214, c215, c216, c217, c218, c219, c220, c221, c222, c223, c224, c225, c226, c227, c228, c229, c230, c231, c232, c233, c234, c235, c236, c237, c238, c239, c240, c241, c242, c243, c244, c245, c246, c247, c248, c249, c250, c251, c252, c253, c254, c255, c256, c257, c258, c259, c260, c261, c262, c263, c264, c265, c266, c267], []⟩ w0 := by
 conv => arg 2; whnf
 have HK := hid hK
 have HA : Hid (w0.rowIs bv T 8 (fun i => .int .u32 (v i)) /\ bv ≠ bh) := ⟨hv, hne⟩
 have H0 : Hid (But bh w0 w0 /\ w0.rowIs bh 163 8 (fun j => .int .u32 (if j < 0 then add32 (h j) (v j) else h j))) := ⟨But.refl _ _, hh.congr fun i _ => by simp⟩
 clear hK hv hh hne
 go_wp2_with fail
 go_loopw [18] (fun tv wx => ∃ t : Nat, tv = .int .i64 (t : Int) /\ t <= 8 /\ Hid (But bh w0 wx /\ wx.rowIs bh 163 8 (fun j => .int .u32 (if j < t then add32 (h j) (v j) else h j)))) (fun tv _ => 8 - (intOf tv).toNat)
 case atStart => exact ⟨0, rfl, Nat.zero_le _, H0⟩
 case round =>
  obtain ⟨t, rfl, ht, HR⟩ := hrel
  by_cases hlt : t < 8
  ·have ht' : wr.cell? ⟨bh, t, none⟩ = some (.int .u32 (h t)) := by
    have := HR.out.2.cell hlt
    simpa using this
   have vt : wr.cell? ⟨bv, t, none⟩ = some (.int .u32 (v t)) := (HR.out.1.row HA.out.1 HA.out.2).cell hlt
   have fz := HR.out.2.frozen t
   have tt : (t : Int) < 8 := by omega
   have t0 : (0 : Int) <= (t : Int) := by omega
   go_wp2_with fail
   go_region
   all_goals
    go_wp2_with fail
    go_roundw
    case rel => exact ⟨t + 1, by go_num, by omega, (adds_step HR.out rfl).1.drew, (adds_step HR.out rfl).2⟩
    case measure => simp [intOf]; omega
  ·have he : t = 8 := by omega
   subst he
   go_wp2_with fail
   exact HK.out _ _ _ _ _ _ _ _ _ _ _ _ _ _ _ _ _ HR.out.1 (HR.out.2.congr fun i hi => by simp [hi])
theorem u32info : (prog.info? 163).map (fun i => (i.zero, i.size, i.bytes)) = some (some (.int .u32 0), 1, 4) := by kernel_rfl
structure Laid (w wx : World) (t : TypeId) (B : NI) (M : Nat) (bv : Value) (h : NI) : Prop where
 text : ∃ g c', bv = .slice (some ⟨g, 0, none⟩) M c' /\ w.heap.size < g /\ ∀ j, j < M -> wx.cell? ⟨g, j, none⟩ = some (.int .u8 (B j))
 hrow : wx.rowIs w.heap.size t 8 (fun i => .int .u32 (h i))
 krow : wx.rowIs (w.heap.size + 1) t 64 (fun i => .int .u32 (kS i))
 old : Old w wx
theorem laid_next {w wr w2 w3 : World} {t : TypeId} {B : NI} {M g bc : Nat} {h h' : NI} (hl : Laid w wr t B M (.slice (some ⟨g, 0, none⟩) M bc) h) (ho : Old wr w2) (hb : But w.heap.size w2 w3) (hr : w3.rowIs w.heap.size t 8 (fun i => .int .u32 (h' i))) :
  Laid w w3 t B M (.slice (some ⟨g, 0, none⟩) M bc) h' := by
 obtain ⟨g', c', e, hg, hc⟩ := hl.text
 simp at e
 obtain ⟨rfl, rfl⟩ := e
 refine ⟨⟨g, bc, rfl, hg, fun j hj => ?_⟩, hr, hb.row (ho.row hl.krow) (by omega), (hl.old.trans ho).but hb (Nat.le_refl _)⟩
 rw [hb.cell (p := ⟨g, j, none⟩) (Nat.ne_of_gt hg)]
 exact ho.cellOf (hc j hj)
theorem laid_cells {w wr : World} {t : TypeId} {B : NI} {M g bc : Nat} {h : NI} (hl : Laid w wr t B M (.slice (some ⟨g, 0, none⟩) M bc) h) : ∀ j, j < M -> wr.cell? ⟨g, j, none⟩ = some (.int .u8 (B j)) := by
 obtain ⟨g', c', e, hg, hc⟩ := hl.text
 simp at e
 obtain ⟨rfl, rfl⟩ := e
 exact hc
theorem eight_row (w : World) (t : TypeId) (h : NI) : (w.alloc (.cells #[.int .u32 (h 0), .int .u32 (h 1), .int .u32 (h 2), .int .u32 (h 3), .int .u32 (h 4), .int .u32 (h 5), .int .u32 (h 6), .int .u32 (h 7)] t)).drew.rowIs w.heap.size t 8 (fun i => .int .u32 (h i)) :=
 World.rowIs_alloc w _ t _ fun i hi => by
  match i, hi with
  | 0, _ => rfl
  | 1, _ => rfl
  | 2, _ => rfl
  | 3, _ => rfl
  | 4, _ => rfl
  | 5, _ => rfl
  | 6, _ => rfl
  | 7, _ => rfl
theorem pieces_loop {K : Act -> World -> Prop} {Q' : Exit -> Act -> World -> Prop} (w w0 : World) (B : NI) (P g bc : Nat) (c0 c1 c2 c7 c8 c9 c10 c11 c12 c13 c14 c15 c16 c17 c18 c19 c20 c21 c22 c23 c24 c25 c26 c27 c28 c29 c30 c31 c32 c33 c34 c35 c36 c37 c38 c39 c40 c41 c42 c43 c44 c45 c46 c47 c48 c49 c50 c51 c52 c53 c54 c55 c56 c57 c58 c59 c60 c61 c62 c63 c64 c65 c66 c67 c68 c69 c70 c71 c72 c73 c74 c75 c76 c77 c78 c79 c80 c81 c82 c83 c84 c85 c86 c87 c88 c89 c90 c91 c92 c93 c94 c95 c96 c97 c98 c99 c100 c101 c102 c103 c104 c105 c106 c107 c108 c109 c110 c111 c112 c113 c114 c115 c116 c117 c118 c119 c120 c121 c122 c123 c124 c125 c126 c127 c128 c129 c130 c131 c132 c133 c134 c135 c136 c137 c138 c139 c140 c141 c142 c143 c144 c145 c146 c147 c148 c149 c150 c151 c152 c153 c154 c155 c156 c157 c158 c159 c160 c161 c162 c163 c164 c165 c166 c167 c168 c169 c170 c171 c172 c173 c174 c175 c176 c177 c178 c179 c180 c181 c182 c183 c184 c185 c186 c187 c188 c189 c190 c191 c192 c193 c194 c195 c196 c197 c198 c199 c200 c201 c202 c203 c204 c205 c206 c207 c208 c209 c210 c211 c212 c213 c214 c215 c216 c217 c218 c219 c220 c221 c222 c223 c224 c225 c226 c227 c228 c229 c230 c231 c232 c233 c234 c235 c236 c237 c238 c239 c240 c241 c242 c243 c244 c245 c246 c247 c248 c249 c250 c251 c252 c253 c254 c255 c256 c257 c258 c259 c260 c261 c262 c263 c264 c265 c266 c267 : Value)
  (hP : P <= 20000) (hB : ∀ i, 0 <= B i /\ B i <= 255) (hL : Laid w w0 163 B (64 * P) (.slice (some ⟨g, 0, none⟩) (64 * P) bc) (hS))
  (hK : ∀ (u6 u7 u8 u9 u10 u11 u12 u13 u14 u15 u16 u17 u18 u40 u41 u42 u43 u44 u45 u46 u47 u48 u49 u50 u51 u52 u53 u54 u55 u56 u57 u58 u59 u60 u61 u62 u63 u64 u65 u66 u67 u68 u69 u70 u71 u72 u73 u74 u75 u76 u77 u78 u79 u80 u81 u82 u83 u84 u85 u86 u87 u88 u89 u90 u91 u92 u93 u94 u95 u96 u97 u98 u99 u100 u101 u102 u103 u104 u105 u106 u107 u108 u109 u110 u111 u112 u113 u114 u115 u116 u117 u118 u119 u120 u121 u122 u123 u124 u125 u126 u127 u128 u129 u130 u131 u132 u133 u134 u135 u136 u137 u138 u139 u140 u141 u142 u143 u144 u145 u146 u147 u148 u149 u150 u151 u152 u153 u154 u155 u156 u157 u158 u159 u160 u161 u162 u163 u164 u165 u166 u167 u168 u169 u170 u171 u172 u173 u174 u175 u176 u177 u178 u179 u180 u181 u182 u183 u184 u185 u186 u187 u188 u189 u190 u191 u192 u193 u194 u195 u196 u197 u198 u199 u200 u201 u202 u203 u204 u205 u206 u207 u208 u209 u210 u211 u212 u213 u214 u215 u216 u217 u218 u219 u220 u221 u222 u223 u224 u225 u226 u227 u228 u229 u230 u231 u232 u233 u234 u235 u236 u237 u238 u239 u240 u241 u242 u243 u244 u245 u246 u247 u248 u249 u250 u251 u252 u253 u254 : Value) (w' : World), Laid w w' 163 B (64 * P) (.slice (some ⟨g, 0, none⟩) (64 * P) bc) (state B P) -> K ⟨#[c0, c1, c2, .slice (some ⟨w.heap.size, 0, none⟩) 8 8, .slice (some ⟨w.heap.size + 1, 0, none⟩) 64 64, .slice (some ⟨g, 0, none⟩) (64 * P) bc, u6, u7, u8, u9, u10, u11, u12, u13, u14, u15, u16, u17, u18, c19, c20, c21, c22, c23, c24, c25, c26, c27, c28, c29, c30, c31, c32, c33, c34, c35, c36, c37, c38, c39, u40, u41, u42, u43, u44, u45, u46, u47, u48, u49, u50, u51, u52, u53, u54, u55, u56, u57, u58, u59, u60, u61, u62, u63, u64, u65, u66, u67, u68, u69, u70, u71, u72, u73, u74, u75, u76, u77, u78, u79, u80, u81, u82, u83, u84, u85, u86, u87, u88, u89, u90, u91, u92, u93, u94, u95, u96, u97, u98, u99, u100, u101, u102, u103, u104, u105, u106, u107, u108, u109, u110, u111, u112, u113, u114, u115, u116, u117, u118, u119, u120, u121, u122, u123, u124, u125, u126, u127, u128, u129, u130, u131, u132, u133, u134, u135, u136, u137, u138, u139, u140, u141, u142, u143, u144, u145, u146, u147, u148, u149, u150, u151, u152, u153, u154, u155, u156, u157, u158, u159, u160, u161, u162, u163, u164, u165, u166, u167, u168, u169, u170, u171, u172, u173, u174, u175, u176, u177, u178, u179, u180, u181, u182, u183, u184, u185, u186, u187, u188, u189, u190, u191, u192, u193, u194, u195, u196, u197, u198, u199, u200, u201, u202, u203, u204, u205, u206, u207, u208, u209, u210, u211, u212, u213, u214, u215, u216, u217, u218, u219, u220, u221, u222, u223, u224, u225, u226, u227, u228, u229, u230, u231, u232, u233, u234, u235, u236, u237, u238, u239, u240, u241, u242, u243, u244, u245, u246, u247, u248, u249, u250, u251, u252, u253, u254, c255, c256, c257, c258, c259, c260, c261, c262, c263, c264, c265, c266, c267], []⟩ w') :
  Code.wp prog ((za1 2 (Tryz.f149.body.getD .skip)).getD .skip) (Exit.then K Q') ⟨#[c0, c1, c2, .slice (some ⟨w.heap.size, 0, none⟩) 8 8, .slice (some ⟨w.heap.size + 1, 0, none⟩) 64 64, .slice (some ⟨g, 0, none⟩) (64 * P) bc, .int .i64 0, c7, c8, c9, c10, c11, c12, c13, c14, c15, c16, c17, c18, c19, c20, c21, c22, c23, c24, c25, c26, c27, c28, c29, c30, c31, c32, c33, c34, c35, c36, c37, c38, c39, c40, c41, c42, c43, c44, c45, c46, c47, c48, c49, c50, c51, c52, c53, c54, c55, c56, c57, c58, c59, c60, c61, c62, c63, c64, c65, c66, c67, c68, c69, c70, c71, c72, c73, c74, c75, c76, c77, c78, c79, c80, c81, c82, c83, c84, c85, c86, c87, c88, c89, c90, c91, c92, c93, c94, c95, c96, c97, c98, c99, c100, c101, c102, c103, c104, c105, c106, c107, c108, c109, c110, c111, c112, c113, c114, c115, c116, c117, c118, c119, c120, c121, c122, c123, c124, c125, c126, c127, c128, c129, c130, c131, c132, c133, c134, c135, c136, c137, c138, c139, c140, c141, c142, c143, c144, c145, c146, c147, c148, c149, c150, c151, c152, c153, c154, c155, c156, c157, c158, c159, c160, c161, c162, c163, c164, c165, c166, c167, c168, c169, c170, c171, c172, c173, c174, c175, c176, c177, c178, c179, c180, c181, c182, c183, c184, c185, c186, c187, c188, c189, c190, c191, c192, c193, c194, c195, c196, c197, c198, c199, c200, c201, c202, c203, c204, c205, c206, c207, c208, c209, c210, c211, c212, c213, c214, c215, c216, c217, c218, c219, c220, c221, c222, c223, c224, c225, c226, c227, c228, c229, c230, c231, c232, c233, c234, c235, c236, c237, c238, c239, c240, c241, c242, c243, c244, c245, c246, c247, c248, c249, c250, c251, c252, c253, c254, c255, c256, c257, c258, c259, c260, c261, c262, c263, c264, c265, c266, c267], []⟩ w0 := by
 conv => arg 2; whnf
 have HK := hid hK
 have HB := hid hB
 have H0 := hid hL
 clear hK hB hL
 have hmk : ∀ wx, (Instr.makeSlice 169 (.int .i64 64) (.int .i64 64)).run prog wx = .ok (.slice (some ⟨wx.heap.size, 0, none⟩) 64 64) (wx.alloc (.cells (madeCells #[.int .u32 0] 64) 163)) := run_make_row' (P := prog) 169 163 (.int .u32 0) 4 U169 u32info rfl .i64 .i64 64 (by omega) (by omega)
 dsimp only
 go_wp2_with fail
 go_loopw [6] (fun av wx => ∃ c : Nat, av = .int .i64 (64 * (c : Int)) /\ c <= P /\ Hid (Laid w wx 163 B (64 * P) (.slice (some ⟨g, 0, none⟩) (64 * P) bc) (state B c))) (fun av _ => (64 * P - (intOf av).toNat))
 case atStart => exact ⟨0, rfl, Nat.zero_le _, H0⟩
 case round =>
  obtain ⟨c, rfl, hc, HD⟩ := hrel
  by_cases hlt : c < P
  ·go_upto_block 4 with fail
   refine words_loop wr _ B g (64 * P) bc c _ _ _ _ _ _ _ _ _ _ _ _ _ _ _ _ _ _ _ _ _ _ _ _ _ _ _ _ _ _ _ _ _ _ _ _ _ _ _ _ _ _ _ _ _ _ _ _ _ _ _ _ _ _ _ _ _ _ _ _ _ _ _ _ _ _ _ _ _ _ _ _ _ _ _ _ _ _ _ _ _ _ _ _ _ _ _ _ _ _ _ _ _ _ _ _ _ _ _ _ _ _ _ _ _ _ _ _ _ _ _ _ _ _ _ _ _ _ _ _ _ _ _ _ _ _ _ _ _ _ _ _ _ _ _ _ _ _ _ _ _ _ _ _ _ _ _ _ _ _ _ _ _ _ _ _ _ _ _ _ _ _ _ _ _ _ _ _ _ _ _ _ _ _ _ _ _ _ _ _ _ _ _ _ _ _ _ _ _ _ _ _ _ _ _ _ _ _ _ _ _ _ _ _ _ _ _ _ _ _ _ _ _ _ _ _ _ _ _ _ _ _ _ _ _ _ _ _ _ _ _ _ _ _ _ _ _ _ _ _ _ _ _ _ _ _ _ _ _ _ _ _ _ _ _ _ _ _ _ _ _ _ _ _ (by omega) (by omega) ((Old.refl wr).alloc _) (laid_cells HD.out) HB.out (World.rowIs_made wr _ 64 _) ?_
   intro u8 u9 u10 u11 u47 u48 u49 u50 u51 u52 u53 u54 u55 u56 u57 u58 u59 u60 u61 u62 u63 u64 u65 u66 u67 u68 u69 u70 u71 u72 u73 u74 u75 u76 u77 u78 u79 u80 u81 u82 u83 u84 u85 u86 u87 u88 u89 u90 u91 u92 u93 u94 u95 u96 u97 u98 u99 u100 u101 u102 u103 u104 u105 u106 u107 u108 u109 u110 u111 u112 u113 u114 u115 u116 u117 u118 u119 u120 u121 u122 u123 u124 u125 u126 u127 u128 u129 u130 w1 hold1 hrow1
   have HW : Hid (Old wr w1 /\ w1.rowIs wr.heap.size 163 64 (fun j => .int .u32 (sched (fun j => B (64 * c + j)) 64 j))) := ⟨hold1, hrow1⟩
   have hh := hold1.row HD.out.hrow
   clear hold1 hrow1
   have h0 := hh.cell (i := 0) (by omega)
   have h1 := hh.cell (i := 1) (by omega)
   have h2 := hh.cell (i := 2) (by omega)
   have h3 := hh.cell (i := 3) (by omega)
   have h4 := hh.cell (i := 4) (by omega)
   have h5 := hh.cell (i := 5) (by omega)
   have h6 := hh.cell (i := 6) (by omega)
   have h7 := hh.cell (i := 7) (by omega)
   have hnew := World.new_ne w1 _ h0
   clear hh
   dsimp only
   go_wp2_with fail
   generalize hst : state B c = h at *
   have HS := hid hst
   clear hst
   go_region_held3 (fun w' => w'.cell? ⟨w.heap.size, 0, none⟩ = some (.int .u32 (h 0)) /\ w'.cell? ⟨w.heap.size, 1, none⟩ = some (.int .u32 (h 1)) /\ w'.cell? ⟨w.heap.size, 2, none⟩ = some (.int .u32 (h 2)) /\ w'.cell? ⟨w.heap.size, 3, none⟩ = some (.int .u32 (h 3)) /\ w'.cell? ⟨w.heap.size, 4, none⟩ = some (.int .u32 (h 4)) /\ w'.cell? ⟨w.heap.size, 5, none⟩ = some (.int .u32 (h 5)) /\ w'.cell? ⟨w.heap.size, 6, none⟩ = some (.int .u32 (h 6)) /\ w'.cell? ⟨w.heap.size, 7, none⟩ = some (.int .u32 (h 7))) (go_keep) (fail)
   clear h0 h1 h2 h3 h4 h5 h6 h7 hnew
   go_upto_block 6 with fail
   refine rounds_loop w1 _ (sched (fun j => B (64 * c + j)) 64) h 164 (w.heap.size + 1) wr.heap.size _ _ _ _ _ _ _ _ _ _ _ _ _ _ _ _ _ _ _ _ _ _ _ _ _ _ _ _ _ _ _ _ _ _ _ _ _ _ _ _ _ _ _ _ _ _ _ _ _ _ _ _ _ _ _ _ _ _ _ _ _ _ _ _ _ _ _ _ _ _ _ _ _ _ _ _ _ _ _ _ _ _ _ _ _ _ _ _ _ _ _ _ _ _ _ _ _ _ _ _ _ _ _ _ _ _ _ _ _ _ _ _ _ _ _ _ _ _ _ _ _ _ _ _ _ _ _ _ _ _ _ _ _ _ _ _ _ _ _ _ _ _ _ _ _ _ _ _ _ _ _ _ _ _ _ _ _ _ _ _ _ _ _ _ _ _ _ _ _ _ _ _ _ _ _ _ _ _ _ _ _ _ _ _ _ _ _ _ _ _ _ _ _ _ _ _ _ _ _ _ _ _ _ _ _ _ _ _ _ _ _ _ _ _ _ _ _ _ _ _ _ _ _ _ _ _ _ _ _ _ _ _ _ _ _ _ _ _ _ _ _ _ _ _ _ _ _ _ _ _ _ _ _ _ _ _ _ _ _ _ _ _ _ _ ((Old.refl w1).alloc _).drew (HW.out.1.row HD.out.krow) HW.out.2 (eight_row w1 164 h) ?_
   intro u13 u14 u15 u16 u17 u156 u157 u158 u159 u160 u161 u162 u163 u164 u165 u166 u167 u168 u169 u170 u171 u172 u173 u174 u175 u176 u177 u178 u179 u180 u181 u182 u183 u184 u185 u186 u187 u188 u189 u190 u191 u192 u193 u194 u195 u196 u197 u198 u199 u200 u201 u202 u203 u204 u205 u206 u207 u208 u209 u210 u211 u212 u213 u214 u215 u216 u217 u218 u219 u220 u221 u222 u223 u224 u225 u226 u227 u228 u229 u230 u231 u232 u233 u234 u235 u236 u237 u238 u239 w2 hold2 hrow2
   have HX : Hid (Old w1 w2 /\ w2.rowIs w1.heap.size 164 8 (fun i => .int .u32 (zai (sched (fun j => B (64 * c + j)) 64) 64 h i))) := ⟨hold2, hrow2⟩
   clear hold2 hrow2
   dsimp only
   go_upto_block 8 with fail
   refine adds_loop w2 h (zai (sched (fun j => B (64 * c + j)) 64) 64 h) 164 w.heap.size w1.heap.size _ _ _ _ _ _ _ _ _ _ _ _ _ _ _ _ _ _ _ _ _ _ _ _ _ _ _ _ _ _ _ _ _ _ _ _ _ _ _ _ _ _ _ _ _ _ _ _ _ _ _ _ _ _ _ _ _ _ _ _ _ _ _ _ _ _ _ _ _ _ _ _ _ _ _ _ _ _ _ _ _ _ _ _ _ _ _ _ _ _ _ _ _ _ _ _ _ _ _ _ _ _ _ _ _ _ _ _ _ _ _ _ _ _ _ _ _ _ _ _ _ _ _ _ _ _ _ _ _ _ _ _ _ _ _ _ _ _ _ _ _ _ _ _ _ _ _ _ _ _ _ _ _ _ _ _ _ _ _ _ _ _ _ _ _ _ _ _ _ _ _ _ _ _ _ _ _ _ _ _ _ _ _ _ _ _ _ _ _ _ _ _ _ _ _ _ _ _ _ _ _ _ _ _ _ _ _ _ _ _ _ _ _ _ _ _ _ _ _ _ _ _ _ _ _ _ _ _ _ _ _ _ _ _ _ _ _ _ _ _ _ _ _ _ _ _ _ _ _ _ _ _ _ _ _ _ _ _ _ _ _ _ _ _ _ (Nat.ne_of_gt (HW.out.1.row HD.out.hrow).lt) (HX.out.1.row (HW.out.1.row HD.out.hrow)) HX.out.2 ?_
   intro u18 u240 u241 u242 u243 u244 u245 u246 u247 u248 u249 u250 u251 u252 u253 u254 w3 hbut hrow3
   have HY : Hid (Laid w w3 163 B (64 * P) (.slice (some ⟨g, 0, none⟩) (64 * P) bc) (state B (c + 1))) := laid_next HD.out (HW.out.1.trans HX.out.1) hbut (hrow3.congr fun i _ => by rw [<- HS.out]; rfl)
   clear hbut hrow3 HX HW HD HS
   dsimp only
   go_wp2_with fail
   go_roundw
   case rel => exact ⟨c + 1, by go_num, by omega, HY⟩
   case measure => simp [intOf]; omega
  ·have he : c = P := by omega
   subst he
   go_wp2_with fail
   exact HK.out _ _ _ _ _ _ _ _ _ _ _ _ _ _ _ _ _ _ _ _ _ _ _ _ _ _ _ _ _ _ _ _ _ _ _ _ _ _ _ _ _ _ _ _ _ _ _ _ _ _ _ _ _ _ _ _ _ _ _ _ _ _ _ _ _ _ _ _ _ _ _ _ _ _ _ _ _ _ _ _ _ _ _ _ _ _ _ _ _ _ _ _ _ _ _ _ _ _ _ _ _ _ _ _ _ _ _ _ _ _ _ _ _ _ _ _ _ _ _ _ _ _ _ _ _ _ _ _ _ _ _ _ _ _ _ _ _ _ _ _ _ _ _ _ _ _ _ _ _ _ _ _ _ _ _ _ _ _ _ _ _ _ _ _ _ _ _ _ _ _ _ _ _ _ _ _ _ _ _ _ _ _ _ _ _ _ _ _ _ _ _ _ _ _ _ _ _ _ _ _ _ _ _ _ _ _ _ _ _ _ _ _ _ _ _ _ _ _ _ _ _ _ _ _ _ _ _ _ _ HD.out
end
end Go.Proofs.YtlnmjbbpenhdbaaGreat
