/-
  What the proof needs, part 17.
-/
import Derived.Test.YtlnmjbbpenhdbaaGreatKp11
import Derived.Test.YtlnmjbbpenhdbaaGreatKp16
import Derived.Test.YtlnmjbbpenhdbaaGreatKp12
import Derived.Test.YtlnmjbbpenhdbaaGreatKp14
namespace Go.Proofs.YtlnmjbbpenhdbaaGreat
open Tryz
open List renaming set_cons_zero → Ls0, set_cons_succ → Ls1, drop_succ_cons → Ld1, drop_zero → Ld0, drop_nil → Ldn
open Tryz renaming underlying22 → U22, underlying25 → U25, underlying29 → U29, underlying41 → U41, underlying50 → U50
set_option linter.unusedSimpArgs false
set_option linter.unusedVariables false
set_option maxRecDepth 100000
set_option maxHeartbeats 32000000
section
open Go.RowKit
theorem zau {w : World} {base : Nat} {e : TypeId} {size : Nat} {v : Value} {n : Nat} {xs : List Value} (h : w.ownsRow base e size v n xs) : ∃ b c, v = .slice b n c := by
 rcases h.2 with ⟨rfl, rfl⟩ | ⟨g, cap, cur, rfl, _⟩
 ·exact ⟨none, 0, rfl⟩
 ·exact ⟨_, cap, rfl⟩
def GivD (w : World) (ok : Bool) (nt : Nat) (T : NI) (L : Nat -> Nat) (B : NN) (r : Ending) (w' : World) : Prop :=
 Old w w' /\ ∃ v u, r = .returned (.tuple #[.agg #[v, u], .bool ok]) /\ Nums w' w.heap.size v (if ok then nt else 0) T /\ Rws w' w.heap.size u (if ok then nt else 0) L B
theorem givD_no {w W' wx : World} {b nt : Nat} {T : NI} {L : Nat -> Nat} {B : NN} {ok : Bool} (hk : ok = false) (hb : w.heap.size <= b) (h : Old w wx) : GivD w ok nt T L B (.returned (.tuple #[.agg #[.slice none 0 0, .slice none 0 0], .bool false])) ((wx.setCell ⟨b, 0, none⟩ (.slice none 0 0)).setCell ⟨b, 1, none⟩ (.slice none 0 0)) := by
 subst hk
 exact ⟨(h.setCell (p := ⟨b, 0, none⟩) hb _).setCell (p := ⟨b, 1, none⟩) hb _, _, _, rfl, zaD _ _ _, fun _ => none, fun _ => 0, World.ownsRow_nil _ _ _ _, fun j hj => by simp at hj⟩
theorem givD_yes {w w' : World} {b base nt : Nat} {T : NI} {L : Nat -> Nat} {B : NN} {ok : Bool} {v u : Value} (hk : ok = true) (hb : w.heap.size <= b) (hbb : b < base) (h : Old w w') (h1 : Nums w' base v nt T) (h2 : Rws w' base u nt L B) : GivD w ok nt T L B (.returned (.tuple #[.agg #[v, u], .bool true])) ((w'.setCell ⟨b, 0, none⟩ v).setCell ⟨b, 1, none⟩ u) := by
 subst hk
 exact ⟨(h.setCell (p := ⟨b, 0, none⟩) hb _).setCell (p := ⟨b, 1, none⟩) hb _, v, u, rfl, (ownsRow_setCell_below (ownsRow_setCell_below h1 (a := ⟨b, 0, none⟩) hbb _) (a := ⟨b, 1, none⟩) hbb _).mono (by omega), ((h2.below (p := ⟨b, 0, none⟩) hbb _).below (p := ⟨b, 1, none⟩) hbb _).mono (by omega)⟩
section
variable {P Q G H X Y Z y : Int} {n : Nat} {A B Pp : NI} {C O : NN}
theorem tgt_a {i : Nat} (h : i < n) : (tgtT P Q G X Y Z n A B Pp (fun j w => C j (2 * w)) (fun j w => C j (2 * w + 1))) i = A i := by unfold tgtT tgt8; rw [if_pos h]
theorem tgt_b {i : Nat} (h : i < n) : (tgtT P Q G X Y Z n A B Pp (fun j w => C j (2 * w)) (fun j w => C j (2 * w + 1))) (n + i) = B i := by unfold tgtT tgt8; rw [if_neg (by omega), if_pos (by omega)]; congr 1; omega
theorem tgt_d {i : Nat} (h : i < n) : (tgtT P Q G X Y Z n A B Pp (fun j w => C j (2 * w)) (fun j w => C j (2 * w + 1))) (2 * n + i) = bigI P Q G (A i) (B i) Y Z := by unfold tgtT tgt8; rw [if_neg (by omega), if_neg (by omega), if_pos (by omega), show 2 * n + i - 2 * n = i by omega]
theorem tgt_p {i : Nat} (h : i + 1 < n) : (tgtT P Q G X Y Z n A B Pp (fun j w => C j (2 * w)) (fun j w => C j (2 * w + 1))) (3 * n + i) = Pp (i + 1) := by unfold tgtT tgt8; rw [if_neg (by omega), if_neg (by omega), if_neg (by omega), if_pos (by omega)]; congr 1; omega
theorem tgt_l (h : 0 < n) : (tgtT P Q G X Y Z n A B Pp (fun j w => C j (2 * w)) (fun j w => C j (2 * w + 1))) (3 * n + (n - 1)) = lastI P Q G X Y Z n (Pp (n - 1)) := by unfold tgtT tgt8; rw [if_neg (by omega), if_neg (by omega), if_neg (by omega), if_neg (by omega), if_pos (by omega)]
theorem tgt_u {e : Nat} (h : 0 < n) : (tgtT P Q G X Y Z n A B Pp (fun j w => C j (2 * w)) (fun j w => C j (2 * w + 1))) (4 * n + 2 * e) = prodI P (fun j => expI P Q (C j (2 * e)) (powI X ((j : Int) + 1) Q)) n := by
 unfold tgtT tgt8
 rw [if_neg (by omega), if_neg (by omega), if_neg (by omega), if_neg (by omega), if_neg (by omega), show 4 * n + 2 * e - 4 * n = 2 * e by omega]
 unfold uvI
 rw [if_pos (by omega), show 2 * e / 2 = e by omega]
theorem tgt_v {e : Nat} (h : 0 < n) : (tgtT P Q G X Y Z n A B Pp (fun j w => C j (2 * w)) (fun j w => C j (2 * w + 1))) (4 * n + 2 * e + 1) = prodI P (fun j => expI P Q (C j (2 * e + 1)) (powI X ((j : Int) + 1) Q)) n := by
 unfold tgtT tgt8
 rw [if_neg (by omega), if_neg (by omega), if_neg (by omega), if_neg (by omega), if_neg (by omega), show 4 * n + 2 * e + 1 - 4 * n = 2 * e + 1 by omega]
 unfold uvI
 rw [if_neg (by omega), show (2 * e + 1) / 2 = e by omega]
theorem bas_a {i : Nat} (h : i < n) : (bas8 n Pp G H y (fun j w => O j (2 * w)) (fun j w => O j (2 * w + 1))) i = row28 i G (n + i) H := by unfold bas8; rw [if_pos h]
theorem bas_b {i : Nat} (h : i < n) : (bas8 n Pp G H y (fun j w => O j (2 * w)) (fun j w => O j (2 * w + 1))) (n + i) = row28 (2 * n + i) G (3 * n + i) H := by unfold bas8; rw [if_neg (by omega), if_pos (by omega), show n + i - n = i by omega]
theorem bas_d {i : Nat} (h : i < n) : (bas8 n Pp G H y (fun j w => O j (2 * w)) (fun j w => O j (2 * w + 1))) (2 * n + i) = row28 (4 * n + i) G (5 * n + i) H := by unfold bas8; rw [if_neg (by omega), if_neg (by omega), if_pos (by omega), show 2 * n + i - 2 * n = i by omega]
theorem bas_p {i : Nat} (h : i + 1 < n) : (bas8 n Pp G H y (fun j w => O j (2 * w)) (fun j w => O j (2 * w + 1))) (3 * n + i) = row28 (4 * n + (i + 1)) (Pp i) (6 * n + i) H := by unfold bas8; rw [if_neg (by omega), if_neg (by omega), if_neg (by omega), if_pos (by omega), show 3 * n + i - 3 * n = i by omega]
theorem bas_l (h : 0 < n) : (bas8 n Pp G H y (fun j w => O j (2 * w)) (fun j w => O j (2 * w + 1))) (3 * n + (n - 1)) = row18 (7 * n - 1) H := by unfold bas8; rw [if_neg (by omega), if_neg (by omega), if_neg (by omega), if_neg (by omega), if_pos (by omega)]
theorem bas_u {e : Nat} (h : 0 < n) : (bas8 n Pp G H y (fun j w => O j (2 * w)) (fun j w => O j (2 * w + 1))) (4 * n + 2 * e) = rowS8 (2 * n) n (fun i => O i (2 * e)) (7 * n + e) G := by
 unfold bas8
 rw [if_neg (by omega), if_neg (by omega), if_neg (by omega), if_neg (by omega), if_neg (by omega), show 4 * n + 2 * e - 4 * n = 2 * e by omega, if_pos (by omega), show 2 * e / 2 = e by omega]
theorem bas_v {e : Nat} (h : 0 < n) : (bas8 n Pp G H y (fun j w => O j (2 * w)) (fun j w => O j (2 * w + 1))) (4 * n + 2 * e + 1) = rowS8 (2 * n) n (fun i => O i (2 * e + 1)) (7 * n + e) y := by
 unfold bas8
 rw [if_neg (by omega), if_neg (by omega), if_neg (by omega), if_neg (by omega), if_neg (by omega), show 4 * n + 2 * e + 1 - 4 * n = 2 * e + 1 by omega, if_neg (by omega), show (2 * e + 1) / 2 = e by omega]
end
theorem LayB.new (W : World) (n : Nat) (Ks : List (Nat × Obj)) (T : NI) (R : NN) (hK : ∀ e, e ∈ Ks -> W.heap[e.1]? = some e.2) : LayB W W.heap.size n Ks T R 0 [] (W.alloc (.cells #[.int .i64 (n : Int), .slice none 0 0, .slice none 0 0] 109)) :=
 ⟨.slice none 0 0, .slice none 0 0, fun _ => 0, fun e he => by simp at he, ⟨(Old.refl _).alloc _, Nat.le_refl _, by simp, zaD _ _ _, World.ownsRow_nil _ _ _ _, fun j hj => by omega, fun i j hi => by omega, fun j hj => by omega, fun j hj => by omega, Or.inl rfl, fun e he => ⟨(((Old.refl W).alloc _).block _ (zag (hK e he))).trans (hK e he), Nat.ne_of_lt (zag (hK e he)), by simp [Value.ownBlock], by simp [Value.ownBlock], fun j hj => by omega⟩⟩, heap_alloc_last _ _⟩
theorem LayB.claim {W w : World} {s n k : Nat} {Ks : List (Nat × Obj)} {T : NI} {R : NN} (h : LayB W s n Ks T R k [] w) (hn : n <= 8) : ∃ v u, w.heap[s]? = some (.cells #[.int .i64 (n : Int), v, u] 109 (0, 0)) /\ Nums w (s + 1) v k T /\ Rws w (s + 1) u k (fun _ => 7 * n + 3) R :=
 let ⟨v, u, bk, _, h⟩ := h; ⟨v, u, h.row, h.ly.nums, fun j => some ⟨bk j, 0, none⟩, fun _ => 7 * n + 3, h.ly.own, fun j hj => (h.ly.full j hj).2.nums (h.ly.full j hj).1 (by omega)⟩
theorem lclm_any (P Q G H : Int) (a : OA) (m cap : Nat) (y : Int) (bi : OA) (ci : Nat) (C : NN) (bo : OA) (co : Nat) (O : NN) (ba : OA) (ca : Nat) (A : NI) (X : Int) (bb : OA) (cb : Nat) (B : NI) (Y Z : Int) (bp : OA) (cp : Nat) (Pp : NI) (n : Nat) (w : World) (h1n : 0 < n) (hn : n <= 8) (h4 : Four P Q G H) (hr : Righ P Q G) (hy : U64 y) (hX : U64 X) (hY : U64 Y) (hZ : U64 Z) (hC : BoxsIn w bi n C) (hO : BoxsIn w bo n O) (hA : FacsIn w ba n A) (hB : FacsIn w bb n B) (hP : FacsIn w bp n Pp) :
  Calls prog 28 #[gv P Q G H a m cap, .int .u64 y, .slice bi n ci, .slice bo n co, tk ba n ca X bb n cb Y Z bp n cp] w (GivD w (eltB P Q y n C n O n A n B n Pp && decide (Pp 0 = bigI P Q G (A 0) (B 0) Y Z)) (4 * n + 6) (tgtT P Q G X Y Z n A B Pp (fun j w => C j (2 * w)) (fun j w => C j (2 * w + 1))) (fun _ => 7 * n + 3) (bas8 n Pp G H y (fun j w => O j (2 * w)) (fun j w => O j (2 * w + 1)))) := by
 obtain ⟨T, hT⟩ : ∃ T, T = tgtT P Q G X Y Z n A B Pp (fun j w => C j (2 * w)) (fun j w => C j (2 * w + 1)) := ⟨_, rfl⟩
 obtain ⟨R, hR⟩ : ∃ R, R = bas8 n Pp G H y (fun j w => O j (2 * w)) (fun j w => O j (2 * w + 1)) := ⟨_, rfl⟩
 rw [<- hT, <- hR]
 have HCom : Hid (∀ (W : World) s Ks wx, Old w W -> LayB W s n Ks T R 0 [] wx -> Calls prog 81 #[.pointer (some ⟨s, 0, none⟩), gv P Q G H a m cap, tk ba n ca X bb n cb Y Z bp n cp] wx fun e w' => e = .returned (.tuple #[]) /\ LayB W s n Ks T R (3 * n) [] w') := fun W s Ks wx ho h => lcom_any W s n Ks T R P Q G H a m cap ba ca A X bb cb B Y Z bp n cp wx h1n hn h4 hr hY hZ (hA.old ho) (hB.old ho) (fun i hi => by rw [hT]; exact tgt_a hi) (fun i hi => by rw [hT]; exact tgt_b hi) (fun i hi => by rw [hT]; exact tgt_d hi) (fun i hi => by rw [hR]; exact bas_a hi) (fun i hi => by rw [hR]; exact bas_b hi) (fun i hi => by rw [hR]; exact bas_d hi) h
 have HPro : Hid (∀ (W : World) s Ks wx, Old w W -> LayB W s n Ks T R (3 * n) [] wx -> Calls prog 82 #[.pointer (some ⟨s, 0, none⟩), gv P Q G H a m cap, tk ba n ca X bb n cb Y Z bp n cp] wx fun e w' => e = .returned (.tuple #[]) /\ LayB W s n Ks T R (4 * n) [] w') := fun W s Ks wx ho h => lprod_any W s n Ks T R P Q G H a m cap ba n ca X bb n cb Y Z bp cp Pp wx h1n hn h4 hr hX hY hZ (hP.old ho) (fun i hi => by rw [hT]; exact tgt_p hi) (by rw [hT]; exact tgt_l h1n) (fun i hi => by rw [hR]; exact bas_p hi) (by rw [hR]; exact bas_l h1n) h
 have HSum : Hid (∀ (W : World) s Ks wx e, e < 3 -> Old w W -> LayB W s n Ks T R (4 * n + 2 * e) [] wx -> Calls prog 83 #[.pointer (some ⟨s, 0, none⟩), gv P Q G H a m cap, .int .u64 y, .slice bi n ci, .slice bo n co, tk ba n ca X bb n cb Y Z bp n cp, .int .i64 (e : Int)] wx fun r w' => r = .returned (.tuple #[]) /\ LayB W s n Ks T R (4 * n + 2 * e + 2) [] w') := fun W s Ks wx e he ho h => lsum_any W s n Ks T R P Q G H a m cap y bi ci C bo co O ba n ca X bb n cb Y Z bp n cp e (4 * n + 2 * e) wx h1n hn he (by omega) h4 hr hX (hC.old ho) (hO.old ho) (by rw [hT]; exact tgt_u h1n) (by rw [hT]; exact tgt_v h1n) (by rw [hR]; exact bas_u h1n) (by rw [hR]; exact bas_v h1n) h
 have HJ := hid fun wx (ho : Old w wx) => zcZ P Q G H a m cap ba n ca A X bb n cb B Y Z bp n cp 0 wx h4 hr hY hZ (hA.old ho) (hB.old ho) h1n h1n
 have HE := hid fun wx (ho : Old w wx) => sallel_any P Q G H a m cap y bi n ci C bo n co O ba n ca A X bb n cb B Y Z bp n cp Pp wx h4 hy (by omega) (by omega) (hC.old ho) (hO.old ho) (by omega) (by omega) (by omega) (hA.old ho) (hB.old ho) (hP.old ho)
 have HSz : Hid (∀ wx, Calls prog 79 #[.slice bi n ci, .slice bo n co, tk ba n ca X bb n cb Y Z bp n cp] wx (Ret wx (.bool true))) := fun wx => by
  have := zcF bi n ci bo n co ba n ca X bb n cb Y Z bp n cp wx (by omega)
  rwa [show fitB n n n n n = true from zfS.2 ⟨⟨h1n, hn⟩, rfl, rfl, rfl, rfl⟩] at this
 rcases hP with h0 | ⟨bp, op, rfl, _, hrp⟩
 ·omega
 have HPc := hid fun wx (ho : Old w wx) => ho.cellOf (hrp 0 h1n).1
 clear hT hR hrp h4 hr hy hX hY hZ hC hO hA hB
 have HZ := lain3 w (gc P Q G H a m cap) (tkc ba n ca X bb n cb Y Z (some ⟨bp, op, none⟩) n cp) (cc none 0 0 none 0 0) 25 41 50
 have HG0 := fun w' ho => (HZ.then (W' := w') ho).row 0 (by simp)
 have HT0 := fun w' ho => (HZ.then (W' := w') ho).row 1 (by simp)
 have HC0 := fun w' ho => (HZ.then (W' := w') ho).row 2 (by simp)
 have HW0 := hid HZ.old
 clear HZ
 obtain ⟨D0, hD⟩ : ∃ D0, D0 = bigI P Q G (A 0) (B 0) Y Z := ⟨_, rfl⟩
 rw [<- hD] at HJ ⊢
 clear hD
 cases hE : eltB P Q y n C n O n A n B n Pp with
 | false =>
  rw [hE] at HE
  have HV : Hid ((false && decide (Pp 0 = D0)) = false) := rfl
  go_enter func28, ntmps28
  go_upto_region 1 with fail
  generalize ((w.alloc (.cells (gc P Q G H a m cap) 25)).alloc (.cells (tkc ba n ca X bb n cb Y Z (some ⟨bp, op, none⟩) n cp) 41)).alloc (.cells (cc none 0 0 none 0 0) 50) = W1 at *
  have HG := hid HG0
  have HTk := hid HT0
  have HCl := hid HC0
  clear HG0 HT0 HC0
  obtain ⟨gb, hgb⟩ : ∃ gb, gb = w.heap.size := ⟨_, rfl⟩
  rw [<- hgb] at HG HTk HCl
  rw [<- hgb]
  have Hgb : Hid (w.heap.size <= gb + 1 + 1) := by unfold Hid; omega
  clear hgb
  refine zaa 24 [.k (.slice bi n ci), .k (.slice bo n co), .k (tk ba n ca X bb n cb Y Z (some ⟨bp, op, none⟩) n cp), .k (.bool true), .k (.bool false), .k (.bool false), .k (gv P Q G H a m cap), .k (.int .u64 y), .k (.slice bi n ci), .k (.slice bo n co), .k (tk ba n ca X bb n cb Y Z (some ⟨bp, op, none⟩) n cp), .k (.bool false), .k (.bool true), .k (.bool true), .k (.bool true), .k undef, .k undef, .k undef, .k undef, .k undef, .k undef, .k undef, .k undef, .k (.bool true)] (Old W1) (by kernel_rfl) (by kernel_rfl) rfl ((Old.refl _).drew) ?st ?_
  case st =>
   refine .p <| .p <| .c (sts U41 HTk.out) <| .c (stK old_R func79 (fun wx _ => HSz.out wx)) <| .p <| .p <| .c (sts U25 HG.out) <| .p <| .p <| .p <| .c (sts U41 HTk.out) <| .c (stK old_R func80 (fun wx hR => HE.out wx (HW0.out.trans hR))) <| .p <| .p <| .p <| .c stn <| .c stn <| .c stn <| .c stn <| .c stn <| .c stn <| .c stn <| .c stn <| .c stp .n
  intro t wx hR hk
  simp only [fill, Ent.val, Ls0, Ls1, Ld1, Ld0, Ldn]
  have hrow := HCl.out _ hR
  have q0 : wx.cell? ⟨gb + 1 + 1, 0, none⟩ = some (.slice none 0 0) := Y0 hrow
  have q1 : wx.cell? ⟨gb + 1 + 1, 1, none⟩ = some (.slice none 0 0) := Y1 hrow
  have f0 : wx.frozen? ⟨gb + 1 + 1, 0, none⟩ = false := zac hrow 0
  have f1 : wx.frozen? ⟨gb + 1 + 1, 1, none⟩ = false := zac hrow 1
  have HRh := hid hrow
  have HOw := hid (HW0.out.trans hR)
  clear hrow hR hk HCom HPro HSum HJ HE HSz HPc HG HTk HCl
  go_wp2_with fail
  exact bodyPost_ret (zay (b := gb + 1 + 1) rfl rfl rfl (zaW HRh.out U50 zbX)) rfl (givD_no (W' := wx) HV.out Hgb.out HOw.out)
 | true =>
  rw [hE] at HE
  by_cases hd : Pp 0 = D0
  ·have HV : Hid ((true && decide (Pp 0 = D0)) = true) := by unfold Hid; simp [hd]
   have hne : Value.bool (!(Pp 0 == D0)) = .bool false := by simp [hd]
   go_enter func28, ntmps28
   go_upto_region 1 with fail
   generalize ((w.alloc (.cells (gc P Q G H a m cap) 25)).alloc (.cells (tkc ba n ca X bb n cb Y Z (some ⟨bp, op, none⟩) n cp) 41)).alloc (.cells (cc none 0 0 none 0 0) 50) = W1 at *
   have HG := hid HG0
   have HTk := hid HT0
   have HCl := hid HC0
   clear HG0 HT0 HC0
   obtain ⟨gb, hgb⟩ : ∃ gb, gb = w.heap.size := ⟨_, rfl⟩
   rw [<- hgb] at HG HTk HCl
   rw [<- hgb]
   have Hgb : Hid (w.heap.size <= gb + 1 + 1) := by unfold Hid; omega
   clear hgb
   refine zaa 24 [.k (.slice bi n ci), .k (.slice bo n co), .k (tk ba n ca X bb n cb Y Z (some ⟨bp, op, none⟩) n cp), .k (.bool true), .k (.bool false), .k (.bool false), .k (gv P Q G H a m cap), .k (.int .u64 y), .k (.slice bi n ci), .k (.slice bo n co), .k (tk ba n ca X bb n cb Y Z (some ⟨bp, op, none⟩) n cp), .k (.bool true), .k (.bool false), .k (.bool false), .k (.bool false), .k (.pointer (some ⟨gb + 1, 5, none⟩)), .k (.slice (some ⟨bp, op, none⟩) n cp), .k (.pointer (some ⟨bp, op, none⟩)), .k (.int .u64 (Pp 0)), .k (gv P Q G H a m cap), .k (tk ba n ca X bb n cb Y Z (some ⟨bp, op, none⟩) n cp), .k (.int .u64 D0), .k (.bool false), .k (.bool false)] (Old W1) (by kernel_rfl) (by kernel_rfl) rfl ((Old.refl _).drew) ?st ?_
   case st =>
    refine .p <| .p <| .c (sts U41 HTk.out) <| .c (stK old_R func79 (fun wx _ => HSz.out wx)) <| .p <| .p <| .c (sts U25 HG.out) <| .p <| .p <| .p <| .c (sts U41 HTk.out) <| .c (stK old_R func80 (fun wx hR => HE.out wx (HW0.out.trans hR))) <| .p <| .p <| .p <| .p <| .c (stf 5 U29 HTk.out) <| .c (sti (n := n) (c := cp) (i := 0) h1n U29) <| .c (stl U22 (fun wx hx => HPc.out wx (HW0.out.trans hx))) <| .c (sts U25 HG.out) <| .c (sts U41 HTk.out) <| .c (stK old_R func63 (fun wx hR => HJ.out wx (HW0.out.trans hR))) <| .c (stv (v' := .bool (!(Pp 0 == D0))) hne) <| .c stp .n
   intro t wx hR hk
   simp only [fill, Ent.val, Ls0, Ls1, Ld1, Ld0, Ldn]
   have HOw := hid (HW0.out.trans hR)
   have hs0 : gb + 1 + 1 < wx.heap.size := zag (HCl.out _ hR)
   obtain ⟨K, hK⟩ : ∃ K, K = [(gb, Obj.cells (gc P Q G H a m cap) 25 (0, 0)), (gb + 1, Obj.cells (tkc ba n ca X bb n cb Y Z (some ⟨bp, op, none⟩) n cp) 41 (0, 0)), (gb + 1 + 1, Obj.cells (cc none 0 0 none 0 0) 50 (0, 0))] := ⟨_, rfl⟩
   have HK1 : Hid ((gb, Obj.cells (gc P Q G H a m cap) 25 (0, 0)) ∈ K) := by unfold Hid; rw [hK]; simp
   have HK2 : Hid ((gb + 1, Obj.cells (tkc ba n ca X bb n cb Y Z (some ⟨bp, op, none⟩) n cp) 41 (0, 0)) ∈ K) := by unfold Hid; rw [hK]; simp
   have HK3 : Hid ((gb + 1 + 1, Obj.cells (cc none 0 0 none 0 0) 50 (0, 0)) ∈ K) := by unfold Hid; rw [hK]; simp
   have HL0 : Hid (LayB wx wx.heap.size n K T R 0 [] (wx.alloc (.cells #[.int .i64 (n : Int), .slice none 0 0, .slice none 0 0] 109))) := LayB.new wx n K T R (by
    rw [hK]; intro e he; simp only [List.mem_cons, List.not_mem_nil, or_false] at he
    rcases he with rfl | rfl | rfl
    ·exact HG.out _ hR
    ·exact HTk.out _ hR
    ·exact HCl.out _ hR)
   clear hK hR hk HJ HE HSz HPc HG HTk HCl HW0
   go_upto_region 4 with fail
   generalize wx.alloc (.cells #[.int .i64 (n : Int), .slice none 0 0, .slice none 0 0] 109) = w3 at *
   obtain ⟨s, hs⟩ : ∃ s, s = wx.heap.size := ⟨_, rfl⟩
   rw [<- hs] at HL0 hs0
   rw [<- hs]
   clear hs
   have HX : Hid (∀ wz k, LayB wx s n K T R k [] wz -> wz.cell? ⟨gb, 0, none⟩ = some (.int .u64 P) /\ wz.cell? ⟨gb, 1, none⟩ = some (.int .u64 Q) /\ wz.cell? ⟨gb, 2, none⟩ = some (.int .u64 G) /\ wz.cell? ⟨gb, 3, none⟩ = some (.int .u64 H) /\ wz.cell? ⟨gb, 4, none⟩ = some (.slice a m cap) /\ wz.cell? ⟨gb + 1, 0, none⟩ = some (.slice ba n ca) /\ wz.cell? ⟨gb + 1, 1, none⟩ = some (.int .u64 X) /\ wz.cell? ⟨gb + 1, 2, none⟩ = some (.slice bb n cb) /\ wz.cell? ⟨gb + 1, 3, none⟩ = some (.int .u64 Y) /\ wz.cell? ⟨gb + 1, 4, none⟩ = some (.int .u64 Z) /\ wz.cell? ⟨gb + 1, 5, none⟩ = some (.slice (some ⟨bp, op, none⟩) n cp)) := fun wz k hz => ⟨Y0 (hz.prot HK1.out), Y1 (hz.prot HK1.out), Y2 (hz.prot HK1.out), Y3 (hz.prot HK1.out), Y4 (hz.prot HK1.out), Y0 (hz.prot HK2.out), Y1 (hz.prot HK2.out), Y2 (hz.prot HK2.out), Y3 (hz.prot HK2.out), Y4 (hz.prot HK2.out), Y5 (hz.prot HK2.out)⟩
   have HCc := hid fun wz k (hz : LayB wx s n K T R k [] wz) => hz.prot HK3.out
   clear HK1 HK2 HK3
   obtain ⟨x0, x1, x2, x3, x4, x5, x6, x7, x8, x9, x10⟩ := HX.out _ _ HL0.out
   go_upto_region 5 with (go_at_call 81; refine (HCom.out wx s K _ HOw.out HL0.out).mono ?_; rintro e w4 ⟨rfl, hl⟩)
   have HL4 := hid hl
   clear hl HL0 HCom x0 x1 x2 x3 x4 x5 x6 x7 x8 x9 x10
   obtain ⟨x0, x1, x2, x3, x4, x5, x6, x7, x8, x9, x10⟩ := HX.out _ _ HL4.out
   go_upto_region 6 with (go_at_call 82; refine (HPro.out wx s K _ HOw.out HL4.out).mono ?_; rintro e w5 ⟨rfl, hl⟩)
   have HL5 := hid hl
   clear hl HL4 HPro x0 x1 x2 x3 x4 x5 x6 x7 x8 x9 x10
   go_upto_region 7 with fail
   go_loopw [48] (fun iv wz => ∃ e : Nat, iv = .int .i64 (e : Int) /\ e <= 3 /\ Hid (LayB wx s n K T R (4 * n + 2 * e) [] wz)) (fun iv _ => 3 - (intOf iv).toNat)
   case atStart => exact ⟨0, rfl, Nat.zero_le _, HL5⟩
   case round =>
    obtain ⟨e, rfl, he, HL⟩ := hrel
    by_cases hlt : e < 3
    ·have i1 : (e : Int) < 3 := by omega
     obtain ⟨x0, x1, x2, x3, x4, x5, x6, x7, x8, x9, x10⟩ := HX.out _ _ HL.out
     go_upto_region 10 with (go_at_call 83; refine (HSum.out wx s K _ e hlt HOw.out HL.out).mono ?_; rintro r w6 ⟨rfl, hl⟩)
     have HN : Hid (LayB wx s n K T R (4 * n + 2 * (e + 1)) [] w6) := by rw [show 4 * n + 2 * e + 2 = 4 * n + 2 * (e + 1) by omega] at hl; exact hl
     clear hl HL x0 x1 x2 x3 x4 x5 x6 x7 x8 x9 x10
     go_wp2_with fail
     go_roundw
     case rel => exact ⟨e + 1, zab e, by omega, HN⟩
     case measure => simp [intOf]; omega
    ·have he3 : e = 3 := by omega
     subst he3
     obtain ⟨v, u, hrow, hN, hRw⟩ := HL.out.claim hn
     have hcl := HCc.out _ _ HL.out
     obtain ⟨bt, ct, rfl⟩ := zau hN
     obtain ⟨b2, c2, rfl⟩ := zau hRw.choose_spec.choose_spec.1
     have c1 : wr.cell? ⟨s, 1, none⟩ = some (.slice bt (4 * n + 2 * 3) ct) := Y1 hrow
     have c2' : wr.cell? ⟨s, 2, none⟩ = some (.slice b2 (4 * n + 2 * 3) c2) := Y2 hrow
     have q0 : wr.cell? ⟨gb + 1 + 1, 0, none⟩ = some (.slice none 0 0) := Y0 hcl
     have q1 : wr.cell? ⟨gb + 1 + 1, 1, none⟩ = some (.slice none 0 0) := Y1 hcl
     have f0 : wr.frozen? ⟨gb + 1 + 1, 0, none⟩ = false := zac hcl 0
     have f1 : wr.frozen? ⟨gb + 1 + 1, 1, none⟩ = false := zac hcl 1
     have HRh := hid hcl
     have HNn := hid hN
     have HRn := hid hRw
     have HOe := hid (HOw.out.trans HL.out.old)
     clear hrow hN hRw hcl HL HSum HX HCc HL5 HOw
     go_wp2_with fail
     exact bodyPost_ret (zay (b := gb + 1 + 1) rfl rfl rfl (zaW HRh.out U50 zbX)) rfl (givD_yes HV.out Hgb.out (by omega) HOe.out HNn.out HRn.out)
  ·have HV : Hid ((true && decide (Pp 0 = D0)) = false) := by unfold Hid; simp [hd]
   have hne : Value.bool (!(Pp 0 == D0)) = .bool true := by simp [hd]
   go_enter func28, ntmps28
   go_upto_region 1 with fail
   generalize ((w.alloc (.cells (gc P Q G H a m cap) 25)).alloc (.cells (tkc ba n ca X bb n cb Y Z (some ⟨bp, op, none⟩) n cp) 41)).alloc (.cells (cc none 0 0 none 0 0) 50) = W1 at *
   have HG := hid HG0
   have HTk := hid HT0
   have HCl := hid HC0
   clear HG0 HT0 HC0
   obtain ⟨gb, hgb⟩ : ∃ gb, gb = w.heap.size := ⟨_, rfl⟩
   rw [<- hgb] at HG HTk HCl
   rw [<- hgb]
   have Hgb : Hid (w.heap.size <= gb + 1 + 1) := by unfold Hid; omega
   clear hgb
   refine zaa 24 [.k (.slice bi n ci), .k (.slice bo n co), .k (tk ba n ca X bb n cb Y Z (some ⟨bp, op, none⟩) n cp), .k (.bool true), .k (.bool false), .k (.bool false), .k (gv P Q G H a m cap), .k (.int .u64 y), .k (.slice bi n ci), .k (.slice bo n co), .k (tk ba n ca X bb n cb Y Z (some ⟨bp, op, none⟩) n cp), .k (.bool true), .k (.bool false), .k (.bool false), .k (.bool false), .k (.pointer (some ⟨gb + 1, 5, none⟩)), .k (.slice (some ⟨bp, op, none⟩) n cp), .k (.pointer (some ⟨bp, op, none⟩)), .k (.int .u64 (Pp 0)), .k (gv P Q G H a m cap), .k (tk ba n ca X bb n cb Y Z (some ⟨bp, op, none⟩) n cp), .k (.int .u64 D0), .k (.bool true), .k (.bool true)] (Old W1) (by kernel_rfl) (by kernel_rfl) rfl ((Old.refl _).drew) ?st ?_
   case st =>
    refine .p <| .p <| .c (sts U41 HTk.out) <| .c (stK old_R func79 (fun wx _ => HSz.out wx)) <| .p <| .p <| .c (sts U25 HG.out) <| .p <| .p <| .p <| .c (sts U41 HTk.out) <| .c (stK old_R func80 (fun wx hR => HE.out wx (HW0.out.trans hR))) <| .p <| .p <| .p <| .p <| .c (stf 5 U29 HTk.out) <| .c (sti (n := n) (c := cp) (i := 0) h1n U29) <| .c (stl U22 (fun wx hx => HPc.out wx (HW0.out.trans hx))) <| .c (sts U25 HG.out) <| .c (sts U41 HTk.out) <| .c (stK old_R func63 (fun wx hR => HJ.out wx (HW0.out.trans hR))) <| .c (stv (v' := .bool (!(Pp 0 == D0))) hne) <| .c stp .n
   intro t wx hR hk
   simp only [fill, Ent.val, Ls0, Ls1, Ld1, Ld0, Ldn]
   have hrow := HCl.out _ hR
   have q0 : wx.cell? ⟨gb + 1 + 1, 0, none⟩ = some (.slice none 0 0) := Y0 hrow
   have q1 : wx.cell? ⟨gb + 1 + 1, 1, none⟩ = some (.slice none 0 0) := Y1 hrow
   have f0 : wx.frozen? ⟨gb + 1 + 1, 0, none⟩ = false := zac hrow 0
   have f1 : wx.frozen? ⟨gb + 1 + 1, 1, none⟩ = false := zac hrow 1
   have HRh := hid hrow
   have HOw := hid (HW0.out.trans hR)
   clear hrow hR hk HCom HPro HSum HJ HE HSz HPc HG HTk HCl
   go_wp2_with fail
   exact bodyPost_ret (zay (b := gb + 1 + 1) rfl rfl rfl (zaW HRh.out U50 zbX)) rfl (givD_no (W' := wx) HV.out Hgb.out HOw.out)
def clmB (P Q G y : Int) (l : Nat) (C : NN) (no : Nat) (O : NN) (na : Nat) (A : NI) (nb : Nat) (B : NI) (np : Nat) (Pp : NI) (Y Z : Int) : Bool := fitB l no na nb np && (eltB P Q y l C no O na A nb B np Pp && decide (Pp 0 = bigI P Q G (A 0) (B 0) Y Z))
theorem zfc (P Q G H : Int) (a : OA) (m cap : Nat) (y : Int) (bi : OA) (l ci : Nat) (C : NN) (bo : OA) (no co : Nat) (O : NN) (ba : OA) (na ca : Nat) (A : NI) (X : Int) (bb : OA) (nb cb : Nat) (B : NI) (Y Z : Int) (bp : OA) (np cp : Nat) (Pp : NI) (w : World) (hl : l <= 9223372036854775807) (h4 : Four P Q G H) (hr : Righ P Q G) (hy : U64 y) (hX : U64 X) (hY : U64 Y) (hZ : U64 Z) (hC : BoxsIn w bi l C) (hO : BoxsIn w bo no O) (hA : FacsIn w ba na A) (hB : FacsIn w bb nb B) (hP : FacsIn w bp np Pp) :
  Calls prog 28 #[gv P Q G H a m cap, .int .u64 y, .slice bi l ci, .slice bo no co, tk ba na ca X bb nb cb Y Z bp np cp] w (GivD w (clmB P Q G y l C no O na A nb B np Pp Y Z) (4 * l + 6) (tgtT P Q G X Y Z l A B Pp (fun j w => C j (2 * w)) (fun j w => C j (2 * w + 1))) (fun _ => 7 * l + 3) (bas8 l Pp G H y (fun j w => O j (2 * w)) (fun j w => O j (2 * w + 1)))) := by
 cases hf : fitB l no na nb np with
 | true =>
  obtain ⟨⟨h1, h8⟩, e1, e2, e3, e4⟩ := zfS.1 hf
  subst e1 e2 e3 e4
  unfold clmB
  rw [hf, Bool.true_and]
  exact lclm_any P Q G H a m cap y bi ci C bo co O ba ca A X bb cb B Y Z bp cp Pp _ w h1 h8 h4 hr hy hX hY hZ hC hO hA hB hP
 | false =>
  have HV : Hid (clmB P Q G y l C no O na A nb B np Pp Y Z = false) := by unfold Hid clmB; rw [hf]; rfl
  have HSz : Hid (∀ wx, Calls prog 79 #[.slice bi l ci, .slice bo no co, tk ba na ca X bb nb cb Y Z bp np cp] wx (Ret wx (.bool false))) := fun wx => by
   have := zcF bi l ci bo no co ba na ca X bb nb cb Y Z bp np cp wx hl
   rwa [hf] at this
  have HZ := lain3 w (gc P Q G H a m cap) (tkc ba na ca X bb nb cb Y Z bp np cp) (cc none 0 0 none 0 0) 25 41 50
  have HT0 := fun w' ho => (HZ.then (W' := w') ho).row 1 (by simp)
  have HC0 := fun w' ho => (HZ.then (W' := w') ho).row 2 (by simp)
  have HW0 := hid HZ.old
  clear HZ h4 hr hy hX hY hZ hC hO hA hB hP hl hf
  generalize clmB P Q G y l C no O na A nb B np Pp Y Z = ok at *
  generalize tgtT P Q G X Y Z l A B Pp (fun j w => C j (2 * w)) (fun j w => C j (2 * w + 1)) = T at *
  generalize bas8 l Pp G H y (fun j w => O j (2 * w)) (fun j w => O j (2 * w + 1)) = R at *
  go_enter func28, ntmps28
  go_upto_region 1 with fail
  generalize ((w.alloc (.cells (gc P Q G H a m cap) 25)).alloc (.cells (tkc ba na ca X bb nb cb Y Z bp np cp) 41)).alloc (.cells (cc none 0 0 none 0 0) 50) = W1 at *
  have HTk := hid HT0
  have HCl := hid HC0
  clear HT0 HC0
  obtain ⟨gb, hgb⟩ : ∃ gb, gb = w.heap.size := ⟨_, rfl⟩
  rw [<- hgb] at HTk HCl
  rw [<- hgb]
  have Hgb : Hid (w.heap.size <= gb + 1 + 1) := by unfold Hid; omega
  clear hgb
  refine zaa 24 [.k (.slice bi l ci), .k (.slice bo no co), .k (tk ba na ca X bb nb cb Y Z bp np cp), .k (.bool false), .k (.bool true), .k (.bool true), .k undef, .k undef, .k undef, .k undef, .k undef, .k undef, .k undef, .k (.bool true), .k (.bool true), .k undef, .k undef, .k undef, .k undef, .k undef, .k undef, .k undef, .k undef, .k (.bool true)] (Old W1) (by kernel_rfl) (by kernel_rfl) rfl ((Old.refl _).drew) ?st ?_
  case st =>
   refine .p <| .p <| .c (sts U41 HTk.out) <| .c (stK old_R func79 (fun wx _ => HSz.out wx)) <| .p <| .p <| .c stn <| .c stn <| .c stn <| .c stn <| .c stn <| .c stn <| .c stn <| .p <| .p <| .c stn <| .c stn <| .c stn <| .c stn <| .c stn <| .c stn <| .c stn <| .c stn <| .c stp .n
  intro t wx hR hk
  simp only [fill, Ent.val, Ls0, Ls1, Ld1, Ld0, Ldn]
  have hrow := HCl.out _ hR
  have q0 : wx.cell? ⟨gb + 1 + 1, 0, none⟩ = some (.slice none 0 0) := Y0 hrow
  have q1 : wx.cell? ⟨gb + 1 + 1, 1, none⟩ = some (.slice none 0 0) := Y1 hrow
  have f0 : wx.frozen? ⟨gb + 1 + 1, 0, none⟩ = false := zac hrow 0
  have f1 : wx.frozen? ⟨gb + 1 + 1, 1, none⟩ = false := zac hrow 1
  have HRh := hid hrow
  have HOw := hid (HW0.out.trans hR)
  clear hrow hR hk HSz HTk HCl
  go_wp2_with fail
  exact bodyPost_ret (zay (b := gb + 1 + 1) rfl rfl rfl (zaW HRh.out U50 zbX)) rfl (givD_no (W' := wx) HV.out Hgb.out HOw.out)
end
section
open Go Go.RowKit
theorem run_enter_fn {P : Program} {a : Act} {w : World} {f : FuncId} {fn : Func} {c : Code} {x : Operand} {caps : Array Value} {os : Array Operand} {tys : Array TypeId} {dst : Option Tmp} {ty : TypeId} {pos : String} {after : Array Edge} {guard : Option (Nat × Bool)} (hf : P.funcs[f]? = some fn) (hn : (fn.name == "runtime.NumGoroutine") = false) (hb : fn.body = some c) (hx : a.eval x = .func (.func f) #[] caps) : (execOp a.eval ⟨dst, .call ⟨.value x, os, tys⟩, ty, pos, after, guard⟩).run P w = .ok (.enter f (os.map a.eval ++ caps)) w := by
 have h1 : ¬ fn.name = "runtime.NumGoroutine" := by simpa using hn
 generalize a.eval = ev at hx ⊢
 simp [execOp, resolve, hx, callFunc, hf, h1, hb, go_sem]
theorem stCf {P : Program} {ops : List Oper} {L0 : List Value} {E : List Ent} {R : World -> Prop} {e : Ent} {f : FuncId} {fn : Func} {c : Code} {x : Operand} {os : Array Operand} {tys : Array TypeId} {dst : Option Tmp} {ty : TypeId} {pos : String} {after : Array Edge} {guard : Option (Nat × Bool)} (caps : Array Value) {args : (Nat -> Value) -> Array Value} (hR : ∀ w w', R w -> Old w w' -> R w') (hf : P.funcs[f]? = some fn)
  (h : ∀ (t : Nat -> Value) (wx : World), R wx -> (∀ k, (after.any fun e => Region.binds .any e && e.on == k) = true -> okAt E k (t k) wx) -> Calls P f (args t) wx fun r w' => ∃ v, r = .returned v /\ Old wx w' /\ e.ok v w')
  (hg : zao E ⟨dst, .call ⟨.value x, os, tys⟩, ty, pos, after, guard⟩ = some true := by rfl) (hn : (fn.name == "runtime.NumGoroutine") = false := by decide) (hb : fn.body = some c := by rfl) (hfx : ∀ t, Act.eval ⟨(fill ops E t 0 L0).toArray, []⟩ x = .func (.func f) #[] caps := by intro _; kernel_rfl) (hx : ∀ t, os.map (Act.eval ⟨(fill ops E t 0 L0).toArray, []⟩) ++ caps = args t := by intro _; kernel_rfl) : StepT P ops L0 E R ⟨dst, .call ⟨.value x, os, tys⟩, ty, pos, after, guard⟩ e :=
 stc hg hR (fun t wx => by rw [run_enter_fn hf hn hb (hfx t), hx t]) h
def one8 {α : Type} (x : α) : Nat -> α := fun _ => x
def two8f {α : Type} (x y : α) : Nat -> α | 0 => x | _ => y
theorem lists_one {w : World} {b : Nat} {ba : OA} {na ca : Nat} {A : NI} (h : w.heap[b]? = some (.cells #[.slice ba na ca] 29 (0, 0))) (h1 : na <= ca) (h2 : ca <= 9223372036854775807) (hf : FacsIn w ba na A) : ListsIn w (some ⟨b, 0, none⟩) 1 (one8 ba) (one8 na) (one8 ca) (one8 A) :=
 Or.inr ⟨b, 0, rfl, zag h, fun j hj => by
  have : j = 0 := by omega
  subst this
  exact ⟨(Y0 h).trans rfl, h1, h2, hf⟩⟩
theorem lists_two {w : World} {b : Nat} {ba bb : OA} {na ca nb cb : Nat} {A B : NI} (h : w.heap[b]? = some (.cells #[.slice ba na ca, .slice bb nb cb] 29 (0, 0))) (h1 : na <= ca) (h2 : ca <= 9223372036854775807) (h3 : nb <= cb) (h4 : cb <= 9223372036854775807) (hf : FacsIn w ba na A) (hg : FacsIn w bb nb B) : ListsIn w (some ⟨b, 0, none⟩) 2 (two8f ba bb) (two8f na nb) (two8f ca cb) (two8f A B) :=
 Or.inr ⟨b, 0, rfl, zag h, fun j hj => by
  match j, hj with
  | 0, _ => exact ⟨(Y0 h).trans rfl, h1, h2, hf⟩
  | 1, _ => exact ⟨(Y1 h).trans rfl, h3, h4, hg⟩⟩
def chX (label : List Int) (Q : Int) (K : Nat -> List Int) (n : Nat) (A : NI) : Int := zaj label (askS [120] K (one8 A) (one8 n)) (1 + 4) Q
def chYZ (c : Int) (label : List Int) (Q : Int) (K : Nat -> List Int) (n : Nat) (A B : NI) : Int := zaj label (askS [c] K (two8f A B) (two8f n n)) (2 + 4) Q
theorem zat (label : List Int) (S : Nat -> List Int) (n : Nat) (Q : Int) : U64 (zaj label S n Q) := by
 unfold zaj
 split
 ·have := numF_bd (fun i => (sumL (numL label S n)).getD i 0) Q 16
  exact ⟨this.1, Int.le_trans this.2 (by decide)⟩
 ·exact ⟨Int.le_refl _, by decide⟩
def blkE (n : Nat) (cs : Array Value) (T : TypeId) : Ent := .u (fun v w => ∃ b, v = .slice (some ⟨b, 0, none⟩) n n /\ w.heap[b]? = some (.cells cs T (0, 0))) fun _ _ _ ⟨b, e, h⟩ ho => ⟨b, e, (ho.block _ (zag h)).trans h⟩
end
section
open Go.RowKit
set_option linter.unusedSimpArgs false in
theorem paccept7_any (label : List Int) (P Q G H : Int) (a : OA) (n cap : Nat) (bt : OA) (nt ct : Nat) (T : NI) (bb : OA) (nb cb : Nat) (BA : Nat -> Option Addr) (L C : Nat -> Nat) (B : NN) (bk : OA) (nk ck : Nat) (K : NI) (bz : OA) (nz cz : Nat) (X : NI) (w : World) (h4 : Four P Q G H) (hr : Righ P Q G) (hlb : Bts label) (hll : label.length <= 1000) (mt : nt <= 80) (mb : nb <= 80) (mL : ∀ j, j < nb -> L j <= 80) (mk : nk <= 80) (hC : ClaimIn w bt nt ct T bb nb cb BA L C B) (hK : FacsIn w bk nk K) (hX : FacsIn w bz nz X) :
  Calls prog 94 #[gv P Q G H a n cap, .string (strOfNums label), cv bt nt ct bb nb cb, cv bk nk ck bz nz cz] w fun e w' => e = .returned (.bool (accB P Q nt T nb L B nk K (chI label P Q G H nt T nb L B nk K) nz X)) /\ Old w w' := by
 have HZ := lain3 w (gc P Q G H a n cap) (cc bt nt ct bb nb cb) (cc bk nk ck bz nz cz) 25 50 55
 have HT : Hid (∀ w', Old (((w.alloc (.cells (gc P Q G H a n cap) 25)).alloc (.cells (cc bt nt ct bb nb cb) 50)).alloc (.cells (cc bk nk ck bz nz cz) 55)) w' -> G6 w' (w.heap.size) P Q G H (.slice a n cap) (w'.cell? ⟨w.heap.size + 1, 0, none⟩ = some (.slice bt nt ct) /\ w'.cell? ⟨w.heap.size + 1, 1, none⟩ = some (.slice bb nb cb) /\ w'.cell? ⟨w.heap.size + 1 + 1, 0, none⟩ = some (.slice bk nk ck) /\ w'.cell? ⟨w.heap.size + 1 + 1, 1, none⟩ = some (.slice bz nz cz))) := fun w' ho => by
  have h := HZ.then ho
  exact ⟨h.cell 0 0 (by simp) rfl, h.cell 0 1 (by simp) rfl, h.cell 0 2 (by simp) rfl, h.cell 0 3 (by simp) rfl, h.cell 0 4 (by simp) rfl, h.cell 1 0 (by simp) rfl, h.cell 1 1 (by simp) rfl, h.cell 2 0 (by simp) rfl, h.cell 2 1 (by simp) rfl⟩
 have HCh := hid fun wx (ho : Old w wx) => pchal_any label P Q G H a n cap bt nt ct T bb nb cb BA L C B bk nk ck K wx h4 hlb hll mt mb mL mk (hC.old ho) (hK.old ho)
 have hcu := ch_u64 label P Q G H nt T nb L B nk K
 generalize chI label P Q G H nt T nb L B nk K = ch at *
 have HAc := hid fun wx (ho : Old w wx) => laccepts_gen P Q G H a n cap bt nt ct T bb nb cb BA L C B bk nk ck K ch bz nz cz X wx h4 hr hcu (by omega) (hC.old ho) (hK.old ho) (hX.old ho)
 have HSz := hid fun wx (ho : Old w wx) => lsize_gen P Q G H a n cap bt nt ct T bb nb cb BA L C B wx h4 (hC.old ho)
 have HN : Hid (¬ (sizeN P Q nt T nb L B ≠ 0 /\ nk = nt) -> accB P Q nt T nb L B nk K ch nz X = false) := fun hno => by
  refine Bool.eq_false_iff.2 fun hyes => hno ?_
  have h := zdW.1 hyes
  exact ⟨(za2.1 h.1).1, h.2.1⟩
 have hszb := sizeN_le P Q nt T nb L B
 generalize accB P Q nt T nb L B nk K ch nz X = R at *
 clear h4 hr hlb hll mb mL hC hK hX hcu
 generalize sizeN P Q nt T nb L B = sz at *
 have HW0 := hid HZ.old
 by_cases hz : sz = 0
 ·subst hz
  have HS0 := hid HSz
  clear HSz
  have HN' := hid (HN.out fun h => h.1 rfl)
  go_enter func94, ntmps94
  go_upto_region 1 with fail
  generalize hW : (((w.alloc (.cells (gc P Q G H a n cap) 25)).alloc (.cells (cc bt nt ct bb nb cb) 50)).alloc (.cells (cc bk nk ck bz nz cz) 55)) = W at *
  clear hW
  obtain ⟨d0, d1, d2, d3, d4, z0, z1, y0, y1⟩ := HT.out _ (Old.refl _)
  go_wp2_with (go_at_call 36; refine (HS0.out _ HW0.out).mono ?_; rintro e w2 ⟨rfl, h2⟩; clear d0 d1 d2 d3 d4 z0 z1 y0 y1; obtain ⟨d0, d1, d2, d3, d4, z0, z1, y0, y1⟩ := HT.out _ h2)
  go_ret
  exact ⟨by rw [HN'.out]; rfl, HW0.out.trans h2⟩
 have k1 : ¬ (sz : Int) = 0 := by omega
 have k2 : ((sz : Int) == 0) = false := by simp; omega
 by_cases hk : nk = nt
 ·have k3 : ((nk : Int) != (nt : Int)) = false := by simp; omega
  clear hk
  go_enter func94, ntmps94
  go_upto_region 1 with fail
  generalize hW : (((w.alloc (.cells (gc P Q G H a n cap) 25)).alloc (.cells (cc bt nt ct bb nb cb) 50)).alloc (.cells (cc bk nk ck bz nz cz) 55)) = W at *
  clear hW
  obtain ⟨d0, d1, d2, d3, d4, z0, z1, y0, y1⟩ := HT.out _ (Old.refl _)
  go_upto_region 3 with (go_at_call 36; refine (HSz.out _ HW0.out).mono ?_; rintro e w2 ⟨rfl, h2⟩; clear d0 d1 d2 d3 d4 z0 z1 y0 y1; obtain ⟨d0, d1, d2, d3, d4, z0, z1, y0, y1⟩ := HT.out _ h2)
  have hd : Old W w2.drew := h2.drew
  go_region_held3 (fun w' => w'.cell? ⟨w.heap.size, 0, none⟩ = some (.int .u64 P) /\ w'.cell? ⟨w.heap.size, 1, none⟩ = some (.int .u64 Q) /\ w'.cell? ⟨w.heap.size, 2, none⟩ = some (.int .u64 G) /\ w'.cell? ⟨w.heap.size, 3, none⟩ = some (.int .u64 H) /\ w'.cell? ⟨w.heap.size, 4, none⟩ = some (.slice a n cap) /\ w'.cell? ⟨w.heap.size + 1, 0, none⟩ = some (.slice bt nt ct) /\ w'.cell? ⟨w.heap.size + 1, 1, none⟩ = some (.slice bb nb cb) /\ w'.cell? ⟨w.heap.size + 1 + 1, 0, none⟩ = some (.slice bk nk ck) /\ w'.cell? ⟨w.heap.size + 1 + 1, 1, none⟩ = some (.slice bz nz cz)) (first | exact HT.out _ h5 | exact HT.out _ h4 | exact HT.out _ hd) (first
   | (go_at_call 129; refine (HCh.out _ (HW0.out.trans hd)).mono ?_; rintro e w4 ⟨rfl, o4⟩; have h4 : Old W w4 := hd.trans o4)
   | (go_at_call 45; refine (HAc.out _ (HW0.out.trans h4)).mono ?_; rintro e w5 ⟨rfl, o5⟩; have h5 : Old W w5 := h4.trans o5))
  go_wp2_with fail
  go_ret
  exact ⟨rfl, HW0.out.trans h5⟩
 ·have HN' : Hid (R = false) := HN.out fun h => hk h.2
  have k3 : ¬ (nk : Int) = (nt : Int) := by omega
  have k4 : ((nk : Int) != (nt : Int)) = true := by simp; omega
  have k5 : ((nk : Int) == (nt : Int)) = false := by simp; omega
  go_enter func94, ntmps94
  go_upto_region 1 with fail
  generalize hW : (((w.alloc (.cells (gc P Q G H a n cap) 25)).alloc (.cells (cc bt nt ct bb nb cb) 50)).alloc (.cells (cc bk nk ck bz nz cz) 55)) = W at *
  clear hW
  obtain ⟨d0, d1, d2, d3, d4, z0, z1, y0, y1⟩ := HT.out _ (Old.refl _)
  go_wp2_with (go_at_call 36; refine (HSz.out _ HW0.out).mono ?_; rintro e w2 ⟨rfl, h2⟩; clear d0 d1 d2 d3 d4 z0 z1 y0 y1; obtain ⟨d0, d1, d2, d3, d4, z0, z1, y0, y1⟩ := HT.out _ h2)
  go_ret
  exact ⟨by rw [HN'.out]; rfl, HW0.out.trans h2⟩
theorem GivD.made {w w' : World} {nt : Nat} {T : NI} {L : Nat -> Nat} {B : NN} {r : Ending} (h : GivD w true nt T L B r w') (hT : ∀ j, j < nt -> U64 (T j)) (hB : ∀ j, j < nt -> ∀ i, i < L j -> U64 (B j i)) : ∃ bt ct bb cb BA C, r = .returned (.tuple #[cv bt nt ct bb nt cb, .bool true]) /\ Old w w' /\ ClaimIn w' bt nt ct T bb nt cb BA L C B := by
 obtain ⟨ho, v, u, rfl, h1, h2⟩ := h
 obtain ⟨bt, ct, rfl, q1, q2, hf⟩ := Nums.facs2 (k := nt) h1 hT
 obtain ⟨bb, cb, BA, C, rfl, q3, q4, hl⟩ := Rws.lists (nb := nt) h2 hB
 exact ⟨bt, ct, bb, cb, BA, C, rfl, ho, q1, q2, q3, q4, hf, hl⟩
theorem GivD.none {w w' : World} {nt : Nat} {T : NI} {L : Nat -> Nat} {B : NN} {r : Ending} (h : GivD w false nt T L B r w') : ∃ bt nt' ct bb nb cb, r = .returned (.tuple #[cv bt nt' ct bb nb cb, .bool false]) /\ Old w w' := by
 obtain ⟨ho, v, u, rfl, h1, h2⟩ := h
 obtain ⟨bt, ct, rfl⟩ := zau h1
 obtain ⟨bb, cb, rfl⟩ := zau h2.choose_spec.choose_spec.1
 exact ⟨_, _, _, _, _, _, rfl, ho⟩
theorem u64_tgt {P Q G X Y Z : Int} {n : Nat} {A B Pp : NI} {Ui Vi : NN} (hA : ∀ i, i < n -> U64 (A i)) (hB : ∀ i, i < n -> U64 (B i)) (hP : ∀ i, i < n -> U64 (Pp i)) (j : Nat) : U64 (tgtT P Q G X Y Z n A B Pp Ui Vi j) := by
 unfold tgtT tgt8
 split
 ·exact hA _ (by omega)
 ·split
  ·exact hB _ (by omega)
  ·split
   ·exact u64_over _ _ _
   ·split
    ·exact hP _ (by omega)
    ·split
     ·exact u64_over _ _ _
     ·unfold uvI; split <;> exact zaL _ _ _
theorem u64_bas {G H y : Int} {n : Nat} {Pp : NI} {O : NN} (hG : U64 G) (hH : U64 H) (hy : U64 y) (hP : ∀ i, i < n -> U64 (Pp i)) (hO : ∀ i k, i < n -> k < 6 -> U64 (O i k)) (j : Nat) (hj : j < 4 * n + 6) (k : Nat) : U64 (bas8 n Pp G H y (fun j w => O j (2 * w)) (fun j w => O j (2 * w + 1)) j k) := by
 have h1 : U64 1 := ⟨by decide, by decide⟩
 have r2 : ∀ p x q z, U64 x -> U64 z -> U64 (row28 p x q z k) := fun p x q z hx hz => by unfold row28; split; exact hx; split; exact hz; exact h1
 unfold bas8
 split
 ·exact r2 _ _ _ _ hG hH
 ·split
  ·exact r2 _ _ _ _ hG hH
  ·split
   ·exact r2 _ _ _ _ hG hH
   ·split
    ·exact r2 _ _ _ _ (hP _ (by omega)) hH
    ·split
     ·unfold row18; split; exact hH; exact h1
     ·split
      ·unfold rowS8; split; exact hO _ _ (by omega) (by omega); split; exact hG; exact h1
      ·unfold rowS8; split; exact hO _ _ (by omega) (by omega); split; exact hy; exact h1
def accS (P Q G H : Int) (label : List Int) (y : Int) (n : Nat) (C O : NN) (A B Pp : NI) (nk : Nat) (K : NI) (nz : Nat) (Xz : NI) (Xc Yc Zc : Int) : Bool :=
 clmB P Q G y n C n O n A n B n Pp Yc Zc && accB P Q (4 * n + 6) (tgtT P Q G Xc Yc Zc n A B Pp (fun j w => C j (2 * w)) (fun j w => C j (2 * w + 1))) (4 * n + 6) (fun _ => 7 * n + 3) (bas8 n Pp G H y (fun j w => O j (2 * w)) (fun j w => O j (2 * w + 1))) nk K (chI label P Q G H (4 * n + 6) (tgtT P Q G Xc Yc Zc n A B Pp (fun j w => C j (2 * w)) (fun j w => C j (2 * w + 1))) (4 * n + 6) (fun _ => 7 * n + 3) (bas8 n Pp G H y (fun j w => O j (2 * w)) (fun j w => O j (2 * w + 1))) nk K) nz Xz
theorem lacc_any (P Q G H : Int) (a : OA) (m cap : Nat) (label : List Int) (y : Int) (bi : OA) (ci : Nat) (C : NN) (bo : OA) (co : Nat) (O : NN) (ba : OA) (ca : Nat) (A : NI) (bb : OA) (cb : Nat) (B : NI) (bp : OA) (cp : Nat) (Pp : NI) (bk : OA) (nk ck : Nat) (K : NI) (bz : OA) (nz cz : Nat) (Xz : NI) (n : Nat) (Xc Yc Zc : Int) (w : World) (h1n : 0 < n) (hn : n <= 8) (h4 : Four P Q G H) (hr : Righ P Q G) (hy : U64 y) (hlb : Bts label) (hll : label.length <= 1000) (hca : n <= ca /\ ca <= 9223372036854775807) (hcb : n <= cb /\ cb <= 9223372036854775807) (mk : nk <= 80) (hC : BoxsIn w bi n C) (hO : BoxsIn w bo n O) (hA : FacsIn w ba n A) (hB : FacsIn w bb n B) (hP : FacsIn w bp n Pp) (hK : FacsIn w bk nk K) (hX : FacsIn w bz nz Xz)
  (hXc : Xc = chX label Q (knwS P Q G H y n C n O) n A) (hYc : Yc = chYZ 121 label Q (knwS P Q G H y n C n O) n A B) (hZc : Zc = chYZ 122 label Q (knwS P Q G H y n C n O) n A B) :
  Calls prog 34 #[gv P Q G H a m cap, .string (strOfNums label), .int .u64 y, .slice bi n ci, .slice bo n co, .agg #[.slice ba n ca, .slice bb n cb, .slice bp n cp, .slice bk nk ck, .slice bz nz cz]] w (Ret w (.bool (accS P Q G H label y n C O A B Pp nk K nz Xz Xc Yc Zc))) := by
 have uX : U64 Xc := by rw [hXc]; exact zat _ _ _ _
 have uY : U64 Yc := by rw [hYc]; exact zat _ _ _ _
 have uZ : U64 Zc := by rw [hZc]; exact zat _ _ _ _
 have HSz : Hid (∀ wx, Calls prog 79 #[.slice bi n ci, .slice bo n co, tk ba n ca 0 bb n cb 0 0 bp n cp] wx (Ret wx (.bool true))) := fun wx => by
  have := zcF bi n ci bo n co ba n ca 0 bb n cb 0 0 bp n cp wx (by omega)
  rwa [show fitB n n n n n = true from zfS.2 ⟨⟨h1n, hn⟩, rfl, rfl, rfl, rfl⟩] at this
 obtain ⟨S, hS⟩ : ∃ S, S = knwS P Q G H y n C n O := ⟨_, rfl⟩
 have HAs : Hid (∀ wx, Old w wx -> Calls prog 89 #[gv P Q G H a m cap, .string (strOfNums label), .int .u64 y, .slice bi n ci, .slice bo n co] wx fun e w' => Old wx w' /\ ∃ kb sb lb qb, e = .returned (askV kb lb qb) /\ AskIn w' kb sb lb qb S label Q) := fun wx ho => by rw [hS]; exact zfb P Q G H a m cap label y bi n ci C bo n co O wx h4 hy (by omega) (by omega) (hC.old ho) (hO.old ho)
 have hSb : ∀ i, i < 3 -> Bts (S i) := by rw [hS]; exact knwS_bd _ _ _ _ _ _ _ _ _
 have hSl : ∀ i, (S i).length <= 640 := by rw [hS]; exact knwS_len _ _ _ _ _ _ _ hn hn
 have HX1 : Hid (∀ (wx : World) (b kb sb lb qb : Nat), Old w wx -> AskIn wx kb sb lb qb S label Q -> wx.heap[b]? = some (.cells #[.slice ba n ca] 29 (0, 0)) -> Calls prog 127 #[.string (strOfNums [120]), .slice (some ⟨b, 0, none⟩) 1 1, .pointer (some ⟨kb, 0, none⟩), .pointer (some ⟨lb, 0, none⟩), .pointer (some ⟨qb, 0, none⟩)] wx (Ret wx (.int .u64 Xc))) := fun wx b kb sb lb qb ho hk hb => by
  rw [hXc, <- hS]
  exact sak_any [120] label S Q kb sb lb qb _ 1 1 _ _ _ _ wx (by intro x hx; simp at hx; subst hx; decide) (by simp) hSb hSl hlb hll (by omega) (fun j _ => by show n <= 80; omega) hk.k hk.s hk.l hk.g (lists_one hb hca.1 hca.2 (hA.old ho))
 have HX2 : Hid (∀ (c : Int) (wx : World) (b kb sb lb qb : Nat), 0 <= c -> c <= 255 -> Old w wx -> AskIn wx kb sb lb qb S label Q -> wx.heap[b]? = some (.cells #[.slice ba n ca, .slice bb n cb] 29 (0, 0)) -> Calls prog 127 #[.string (strOfNums [c]), .slice (some ⟨b, 0, none⟩) 2 2, .pointer (some ⟨kb, 0, none⟩), .pointer (some ⟨lb, 0, none⟩), .pointer (some ⟨qb, 0, none⟩)] wx (Ret wx (.int .u64 (chYZ c label Q S n A B)))) := fun c wx b kb sb lb qb h0 h1 ho hk hb =>
  sak_any [c] label S Q kb sb lb qb _ 2 2 _ _ _ _ wx (by intro x hx; simp at hx; subst hx; exact ⟨h0, by omega⟩) (by simp) hSb hSl hlb hll (by omega) (fun j hj => by match j, hj with | 0, _ => (show n <= 80; omega) | 1, _ => (show n <= 80; omega)) hk.k hk.s hk.l hk.g (lists_two hb hca.1 hca.2 hcb.1 hcb.2 (hA.old ho) (hB.old ho))
 have hTu : ∀ j, U64 ((tgtT P Q G Xc Yc Zc n A B Pp (fun j w => C j (2 * w)) (fun j w => C j (2 * w + 1))) j) := u64_tgt (fun i hi => hA.u64 i hi) (fun i hi => hB.u64 i hi) (fun i hi => hP.u64 i hi)
 have hBu : ∀ j, j < 4 * n + 6 -> ∀ k, U64 ((bas8 n Pp G H y (fun j w => O j (2 * w)) (fun j w => O j (2 * w + 1))) j k) := u64_bas ⟨h4.g0, h4.g1⟩ ⟨h4.h0, h4.h1⟩ hy (fun i hi => hP.u64 i hi) (fun i k hi hk => hO.u64 hi hk)
 have HCl := hid fun wx (ho : Old w wx) => zfc P Q G H a m cap y bi n ci C bo n co O ba n ca A Xc bb n cb B Yc Zc bp n cp Pp wx (by omega) h4 hr hy uX uY uZ (hC.old ho) (hO.old ho) (hA.old ho) (hB.old ho) (hP.old ho)
 obtain ⟨acc, hacc⟩ : ∃ acc, acc = accB P Q (4 * n + 6) ((tgtT P Q G Xc Yc Zc n A B Pp (fun j w => C j (2 * w)) (fun j w => C j (2 * w + 1)))) (4 * n + 6) (fun _ => 7 * n + 3) ((bas8 n Pp G H y (fun j w => O j (2 * w)) (fun j w => O j (2 * w + 1)))) nk K (chI label P Q G H (4 * n + 6) ((tgtT P Q G Xc Yc Zc n A B Pp (fun j w => C j (2 * w)) (fun j w => C j (2 * w + 1)))) (4 * n + 6) (fun _ => 7 * n + 3) ((bas8 n Pp G H y (fun j w => O j (2 * w)) (fun j w => O j (2 * w + 1)))) nk K) nz Xz := ⟨_, rfl⟩
 have HAc : Hid (∀ wx bt ct b2 c2 BA Cc, Old w wx -> ClaimIn wx bt (4 * n + 6) ct ((tgtT P Q G Xc Yc Zc n A B Pp (fun j w => C j (2 * w)) (fun j w => C j (2 * w + 1)))) b2 (4 * n + 6) c2 BA (fun _ => 7 * n + 3) Cc ((bas8 n Pp G H y (fun j w => O j (2 * w)) (fun j w => O j (2 * w + 1)))) -> Calls prog 94 #[gv P Q G H a m cap, .string (strOfNums label), cv bt (4 * n + 6) ct b2 (4 * n + 6) c2, cv bk nk ck bz nz cz] wx (Ret wx (.bool acc))) := fun wx bt ct b2 c2 BA Cc ho hc => by
  rw [hacc]
  exact paccept7_any label P Q G H a m cap bt (4 * n + 6) ct _ b2 (4 * n + 6) c2 BA _ Cc _ bk nk ck K bz nz cz Xz wx h4 hr hlb hll (by omega) (by omega) (fun j _ => by show 7 * n + 3 <= 80; omega) mk hc (hK.old ho) (hX.old ho)
 have HV : Hid (accS P Q G H label y n C O A B Pp nk K nz Xz Xc Yc Zc = (clmB P Q G y n C n O n A n B n Pp Yc Zc && acc)) := by unfold Hid accS; rw [hacc]
 rw [HV.out]
 rw [<- hS] at hYc hZc
 generalize clmB P Q G y n C n O n A n B n Pp Yc Zc = ok at *
 generalize (tgtT P Q G Xc Yc Zc n A B Pp (fun j w => C j (2 * w)) (fun j w => C j (2 * w + 1))) = Tg at *
 generalize (bas8 n Pp G H y (fun j w => O j (2 * w)) (fun j w => O j (2 * w + 1))) = Bg at *
 have HTu := hid hTu
 have HBu := hid hBu
 have HYc := hid hYc.symm
 have HZc := hid hZc.symm
 clear h4 hr hy hlb hll hca hcb mk hC hO hA hB hP hK hX hXc hYc hZc uX uY uZ hSb hSl hS hTu hBu hacc HV
 have HZ := lain2 w (gc P Q G H a m cap) #[.slice ba n ca, .slice bb n cb, .slice bp n cp, .slice bk nk ck, .slice bz nz cz] 25 57
 have HG0 := fun w' ho => (HZ.then (W' := w') ho).row 0 (by simp)
 have HT0 := fun w' ho => (HZ.then (W' := w') ho).row 1 (by simp)
 have HW0 := hid HZ.old
 clear HZ
 go_enter func34, ntmps34
 go_upto_region 1 with fail
 generalize (w.alloc (.cells (gc P Q G H a m cap) 25)).alloc (.cells #[.slice ba n ca, .slice bb n cb, .slice bp n cp, .slice bk nk ck, .slice bz nz cz] 57) = W1 at *
 have HG := hid HG0
 have HS1 := hid HT0
 clear HG0 HT0
 obtain ⟨gb, hgb⟩ : ∃ gb, gb = w.heap.size := ⟨_, rfl⟩
 rw [<- hgb] at HG HS1
 rw [<- hgb]
 clear hgb
 have HGc : Hid (∀ wx, Old W1 wx -> G5 wx (gb) P Q G H (.slice a m cap)) := fun wx ho => g5 (HG.out _ ho)
 have HSc : Hid (∀ wx, Old W1 wx -> wx.cell? ⟨gb + 1, 0, none⟩ = some (.slice ba n ca) /\ wx.cell? ⟨gb + 1, 1, none⟩ = some (.slice bb n cb) /\ wx.cell? ⟨gb + 1, 2, none⟩ = some (.slice bp n cp) /\ wx.cell? ⟨gb + 1, 3, none⟩ = some (.slice bk nk ck) /\ wx.cell? ⟨gb + 1, 4, none⟩ = some (.slice bz nz cz)) := fun wx ho => g5 (HS1.out _ ho)
 clear HG HS1
 obtain ⟨s0, s1, s2, s3, s4⟩ := HSc.out _ (Old.refl _)
 have HO2 : Hid (Old W1 (W1.alloc (.cells (tkc ba n ca 0 bb n cb 0 0 bp n cp) 41))) := (Old.refl _).alloc _
 have HR2 : Hid ((W1.alloc (.cells (tkc ba n ca 0 bb n cb 0 0 bp n cp) 41)).heap[W1.heap.size]? = some (.cells (tkc ba n ca 0 bb n cb 0 0 bp n cp) 41 (0, 0))) := heap_alloc_last _ _
 go_upto_region 2 with fail
 clear s0 s1 s2 s3 s4
 generalize W1.alloc (.cells (tkc ba n ca 0 bb n cb 0 0 bp n cp) 41) = W2 at *
 obtain ⟨tb, htb⟩ : ∃ tb, tb = W1.heap.size := ⟨_, rfl⟩
 rw [<- htb] at HR2
 rw [<- htb]
 have Htb : Hid (W1.heap.size <= tb) := by unfold Hid; omega
 clear htb
 have HTc : Hid (∀ wx, Old W2 wx -> wx.cell? ⟨tb, 0, none⟩ = some (.slice ba n ca) /\ wx.cell? ⟨tb, 1, none⟩ = some (.int .u64 0) /\ wx.cell? ⟨tb, 2, none⟩ = some (.slice bb n cb) /\ wx.cell? ⟨tb, 3, none⟩ = some (.int .u64 0) /\ wx.cell? ⟨tb, 4, none⟩ = some (.int .u64 0) /\ wx.cell? ⟨tb, 5, none⟩ = some (.slice bp n cp)) := fun wx ho => by
  have hrow := (ho.block _ (zag HR2.out)).trans HR2.out
  exact ⟨Y0 hrow, Y1 hrow, Y2 hrow, Y3 hrow, Y4 hrow, Y5 hrow⟩
 obtain ⟨t0, t1, t2, t3, t4, t5⟩ := HTc.out _ (Old.refl _)
 go_upto_region 4 with (go_at_call 79; refine (HSz.out _).mono ?_; rintro e w3 ⟨rfl, o3⟩)
 clear t0 t1 t2 t3 t4 t5 HTc
 have HO3 := hid (HO2.out.trans o3)
 obtain ⟨g0, g1, g2, g3, g4⟩ := HGc.out _ HO3.out
 go_upto_region 5 with (go_at_call 89; refine (HAs.out _ (HW0.out.trans HO3.out)).mono ?_; rintro e w4 ⟨o4, kb, sb, lb, qb, rfl, hask⟩)
 clear g0 g1 g2 g3 g4
 have HAk := hid fun wx (ho : Old w4 wx) => hask.old ho
 have HO4 := hid (HO3.out.trans o4)
 have HR4 : Hid (w4.heap[tb]? = some (.cells (tkc ba n ca 0 bb n cb 0 0 bp n cp) 41 (0, 0))) := ((o3.trans o4).block _ (zag HR2.out)).trans HR2.out
 have HTr := hid fun wx (ho : Old w4 wx) => (ho.block _ (zag HR4.out)).trans HR4.out
 clear hask o3 o4 HO3 HR2 HO2 HSz HAs
 refine zaa 20 [.k (askV kb lb qb), .k (.pointer (some ⟨tb, 0, none⟩)), .k (.slice ba n ca), blkE 1 #[.slice ba n ca] 29, .k (.int .u64 Xc), .k (askV kb lb qb), .k (.pointer (some ⟨tb, 0, none⟩)), .k (.slice ba n ca), .k (.pointer (some ⟨tb, 2, none⟩)), .k (.slice bb n cb), blkE 2 #[.slice ba n ca, .slice bb n cb] 29, .k (.int .u64 Yc), .k (askV kb lb qb), .k (.pointer (some ⟨tb, 0, none⟩)), .k (.slice ba n ca), .k (.pointer (some ⟨tb, 2, none⟩)), .k (.slice bb n cb), blkE 2 #[.slice ba n ca, .slice bb n cb] 29, .k (.int .u64 Zc), .k (.pointer (some ⟨tb, 1, none⟩))] (Old w4) (by kernel_rfl) (by kernel_rfl) rfl ((Old.refl _).drew) ?st ?_
 case st =>
  refine .p <| .p <| .c (stf 0 U29 HTr.out) <| .c (stm (ob := fun t => .cells #[.slice ba n ca] 29) (v := fun s => .slice (some ⟨s, 0, none⟩) 1 1) old_R fun t wx hR hd => ⟨_, rfl, heap_alloc_last _ _⟩) <| .c (stCf #[.pointer (some ⟨kb, 0, none⟩), .pointer (some ⟨lb, 0, none⟩), .pointer (some ⟨qb, 0, none⟩)] (args := fun t => #[.string (strOfNums [120]), t 3, .pointer (some ⟨kb, 0, none⟩), .pointer (some ⟨lb, 0, none⟩), .pointer (some ⟨qb, 0, none⟩)]) old_R func127 fun t wx hR hd => ?_) <| .p <| .p <| .c (stf 0 U29 HTr.out) <| .p <| .c (stf 2 U29 HTr.out) <| .c (stm (ob := fun t => .cells #[.slice ba n ca, .slice bb n cb] 29) (v := fun s => .slice (some ⟨s, 0, none⟩) 2 2) old_R fun t wx hR hd => ⟨_, rfl, heap_alloc_last _ _⟩) <| .c (stCf #[.pointer (some ⟨kb, 0, none⟩), .pointer (some ⟨lb, 0, none⟩), .pointer (some ⟨qb, 0, none⟩)] (args := fun t => #[.string (strOfNums [121]), t 10, .pointer (some ⟨kb, 0, none⟩), .pointer (some ⟨lb, 0, none⟩), .pointer (some ⟨qb, 0, none⟩)]) old_R func127 fun t wx hR hd => ?_) <| .p <| .p <| .c (stf 0 U29 HTr.out) <| .p <| .c (stf 2 U29 HTr.out) <| .c (stm (ob := fun t => .cells #[.slice ba n ca, .slice bb n cb] 29) (v := fun s => .slice (some ⟨s, 0, none⟩) 2 2) old_R fun t wx hR hd => ⟨_, rfl, heap_alloc_last _ _⟩) <| .c (stCf #[.pointer (some ⟨kb, 0, none⟩), .pointer (some ⟨lb, 0, none⟩), .pointer (some ⟨qb, 0, none⟩)] (args := fun t => #[.string (strOfNums [122]), t 17, .pointer (some ⟨kb, 0, none⟩), .pointer (some ⟨lb, 0, none⟩), .pointer (some ⟨qb, 0, none⟩)]) old_R func127 fun t wx hR hd => ?_) <| .c stp .n
  ·obtain ⟨b, e, hb⟩ : ∃ b, t 3 = .slice (some ⟨b, 0, none⟩) 1 1 /\ wx.heap[b]? = some (.cells #[.slice ba n ca] 29 (0, 0)) := hd 3 (by kernel_rfl)
   rw [e]
   exact (HX1.out wx b kb sb lb qb (HW0.out.trans (HO4.out.trans hR)) (HAk.out wx hR) hb).mono fun r w' ⟨h, k⟩ => ⟨_, h, k, rfl⟩
  ·obtain ⟨b, e, hb⟩ : ∃ b, t 10 = .slice (some ⟨b, 0, none⟩) 2 2 /\ wx.heap[b]? = some (.cells #[.slice ba n ca, .slice bb n cb] 29 (0, 0)) := hd 10 (by kernel_rfl)
   rw [e]
   exact (HX2.out 121 wx b kb sb lb qb (by decide) (by decide) (HW0.out.trans (HO4.out.trans hR)) (HAk.out wx hR) hb).mono fun r w' ⟨h, k⟩ => ⟨_, h, k, by rw [HYc.out]; rfl⟩
  ·obtain ⟨b, e, hb⟩ : ∃ b, t 17 = .slice (some ⟨b, 0, none⟩) 2 2 /\ wx.heap[b]? = some (.cells #[.slice ba n ca, .slice bb n cb] 29 (0, 0)) := hd 17 (by kernel_rfl)
   rw [e]
   exact (HX2.out 122 wx b kb sb lb qb (by decide) (by decide) (HW0.out.trans (HO4.out.trans hR)) (HAk.out wx hR) hb).mono fun r w' ⟨h, k⟩ => ⟨_, h, k, by rw [HZc.out]; rfl⟩
 intro t wx hR hk
 simp only [fill, Ent.val, blkE, Ls0, Ls1, Ld1, Ld0, Ldn]
 have hrow := HTr.out _ hR
 have q1 : wx.cell? ⟨tb, 1, none⟩ = some (.int .u64 0) := Y1 hrow
 have q3 : wx.cell? ⟨tb, 3, none⟩ = some (.int .u64 0) := Y3 hrow
 have q4 : wx.cell? ⟨tb, 4, none⟩ = some (.int .u64 0) := Y4 hrow
 have f1 : wx.frozen? ⟨tb, 1, none⟩ = false := zac hrow 1
 have f3 : wx.frozen? ⟨tb, 3, none⟩ = false := zac hrow 3
 have f4 : wx.frozen? ⟨tb, 4, none⟩ = false := zac hrow 4
 have HO5 : Hid (Old W1 (((wx.setCell ⟨tb, 1, none⟩ (.int .u64 Xc)).setCell ⟨tb, 3, none⟩ (.int .u64 Yc)).setCell ⟨tb, 4, none⟩ (.int .u64 Zc))) := (((HO4.out.trans hR).setCell (p := ⟨tb, 1, none⟩) Htb.out _).setCell (p := ⟨tb, 3, none⟩) Htb.out _).setCell (p := ⟨tb, 4, none⟩) Htb.out _
 have HR5 : Hid ((((wx.setCell ⟨tb, 1, none⟩ (.int .u64 Xc)).setCell ⟨tb, 3, none⟩ (.int .u64 Yc)).setCell ⟨tb, 4, none⟩ (.int .u64 Zc)).heap[tb]? = some (.cells (tkc ba n ca Xc bb n cb Yc Zc bp n cp) 41 (0, 0))) := by
  have := zaq (zaq (zaq hrow 1 (.int .u64 Xc)) 3 (.int .u64 Yc)) 4 (.int .u64 Zc)
  unfold Hid; simpa using this
 clear hrow hR hk HTr HR4 HO4 HAk HX1 HX2 HYc HZc
 go_upto_region 6 with fail
 clear q1 q3 q4 f1 f3 f4
 generalize (((wx.setCell ⟨tb, 1, none⟩ (.int .u64 Xc)).setCell ⟨tb, 3, none⟩ (.int .u64 Yc)).setCell ⟨tb, 4, none⟩ (.int .u64 Zc)) = w5 at *
 obtain ⟨t0, t1, t2, t3, t4, t5⟩ := g6 HR5.out
 obtain ⟨g0, g1, g2, g3, g4⟩ := HGc.out _ HO5.out
 cases ok with
 | true =>
  go_upto_region 7 with (go_at_call 28; refine (HCl.out _ (HW0.out.trans HO5.out)).mono ?_; intro e w6 hd; obtain ⟨bt, ct, b2, c2, BA, Cc, rfl, o6, hcl⟩ := GivD.made hd (fun j _ => HTu.out j) (fun j hj i _ => HBu.out j hj i))
  clear t0 t1 t2 t3 t4 t5 g0 g1 g2 g3 g4 hd
  have HOc : Old w6 (w6.alloc (.cells #[.slice bt (4 * n + 6) ct, .slice b2 (4 * n + 6) c2] 50)) := (Old.refl _).alloc _
  have HO7 := hid ((HO5.out.trans o6).trans HOc)
  have HC7 := hid (hcl.old HOc)
  have hrow := heap_alloc_last w6 (.cells #[.slice bt (4 * n + 6) ct, .slice b2 (4 * n + 6) c2] 50)
  have c0 : (w6.alloc (.cells #[.slice bt (4 * n + 6) ct, .slice b2 (4 * n + 6) c2] 50)).cell? ⟨w6.heap.size, 0, none⟩ = some (.slice bt (4 * n + 6) ct) := Y0 hrow
  have c1 : (w6.alloc (.cells #[.slice bt (4 * n + 6) ct, .slice b2 (4 * n + 6) c2] 50)).cell? ⟨w6.heap.size, 1, none⟩ = some (.slice b2 (4 * n + 6) c2) := Y1 hrow
  clear hrow HOc hcl HTu HBu HCl HR5
  generalize w6.alloc (.cells #[.slice bt (4 * n + 6) ct, .slice b2 (4 * n + 6) c2] 50) = w7 at *
  obtain ⟨g0, g1, g2, g3, g4⟩ := HGc.out _ HO7.out
  obtain ⟨s0, s1, s2, s3, s4⟩ := HSc.out _ HO7.out
  clear s0 s1 s2
  go_wp2_with (go_at_call 94; refine (HAc.out _ bt ct b2 c2 BA Cc (HW0.out.trans HO7.out) HC7.out).mono ?_; rintro e w8 ⟨rfl, o8⟩)
  go_ret
  exact ⟨by rfl, (HW0.out.trans HO7.out).trans o8⟩
 | false =>
  go_upto_region 7 with (go_at_call 28; refine (HCl.out _ (HW0.out.trans HO5.out)).mono ?_; intro e w6 hd; obtain ⟨bt, nt', ct, b2, nb', c2, rfl, o6⟩ := GivD.none hd)
  clear t0 t1 t2 t3 t4 t5 g0 g1 g2 g3 g4 hd
  have HO7 : Hid (Old w (w6.alloc (.cells #[.slice bt nt' ct, .slice b2 nb' c2] 50))) := ((HW0.out.trans HO5.out).trans o6).alloc _
  go_wp2_with fail
  go_ret
  exact ⟨by rfl, HO7.out⟩
theorem sacc_no (P Q G H : Int) (a : OA) (m cap : Nat) (label : List Int) (y : Int) (bi : OA) (l ci : Nat) (bo : OA) (no co : Nat) (ba : OA) (na ca : Nat) (bb : OA) (nb cb : Nat) (bp : OA) (np cp : Nat) (bk : OA) (nk ck : Nat) (bz : OA) (nz cz : Nat) (w : World) (hl : l <= 9223372036854775807) (hf : fitB l no na nb np = false) :
  Calls prog 34 #[gv P Q G H a m cap, .string (strOfNums label), .int .u64 y, .slice bi l ci, .slice bo no co, .agg #[.slice ba na ca, .slice bb nb cb, .slice bp np cp, .slice bk nk ck, .slice bz nz cz]] w (Ret w (.bool false)) := by
 have HSz : Hid (∀ wx, Calls prog 79 #[.slice bi l ci, .slice bo no co, tk ba na ca 0 bb nb cb 0 0 bp np cp] wx (Ret wx (.bool false))) := fun wx => by
  have := zcF bi l ci bo no co ba na ca 0 bb nb cb 0 0 bp np cp wx hl
  rwa [hf] at this
 clear hl hf
 have HZ := lain2 w (gc P Q G H a m cap) #[.slice ba na ca, .slice bb nb cb, .slice bp np cp, .slice bk nk ck, .slice bz nz cz] 25 57
 have HT0 := fun w' ho => (HZ.then (W' := w') ho).row 1 (by simp)
 have HW0 := hid HZ.old
 clear HZ
 go_enter func34, ntmps34
 go_upto_region 1 with fail
 generalize (w.alloc (.cells (gc P Q G H a m cap) 25)).alloc (.cells #[.slice ba na ca, .slice bb nb cb, .slice bp np cp, .slice bk nk ck, .slice bz nz cz] 57) = W1 at *
 have HS1 := hid HT0
 clear HT0
 generalize w.heap.size = gb at *
 have s0 : W1.cell? ⟨gb + 1, 0, none⟩ = some (.slice ba na ca) := Y0 (HS1.out _ (Old.refl _))
 have s1 : W1.cell? ⟨gb + 1, 1, none⟩ = some (.slice bb nb cb) := Y1 (HS1.out _ (Old.refl _))
 have s2 : W1.cell? ⟨gb + 1, 2, none⟩ = some (.slice bp np cp) := Y2 (HS1.out _ (Old.refl _))
 have HO2 : Hid (Old W1 (W1.alloc (.cells (tkc ba na ca 0 bb nb cb 0 0 bp np cp) 41))) := (Old.refl _).alloc _
 have HR2 : Hid ((W1.alloc (.cells (tkc ba na ca 0 bb nb cb 0 0 bp np cp) 41)).heap[W1.heap.size]? = some (.cells (tkc ba na ca 0 bb nb cb 0 0 bp np cp) 41 (0, 0))) := heap_alloc_last _ _
 go_upto_region 2 with fail
 clear s0 s1 s2 HS1
 generalize W1.alloc (.cells (tkc ba na ca 0 bb nb cb 0 0 bp np cp) 41) = W2 at *
 generalize W1.heap.size = tb at *
 obtain ⟨t0, t1, t2, t3, t4, t5⟩ := g6 HR2.out
 go_wp2_with (go_at_call 79; refine (HSz.out _).mono ?_; rintro e w3 ⟨rfl, o3⟩)
 go_ret
 exact ⟨rfl, (HW0.out.trans HO2.out).trans o3⟩
end
section
open Go.RowKit
theorem u64_exF8 {Q X Y Z : Int} {n : Nat} {o : Nat -> Nat} {R S T : NI} {Rho : NN} (hQ : 0 < Q) (hQ1 : Q <= 18446744073709551615) (k : Nat) : U64 (exF Q X Y Z n o R S T Rho k) := by
 have hm : ∀ a : Int, U64 (a % Q) := fun a => ⟨Int.emod_nonneg _ (by omega), by have := Int.emod_lt_of_pos a hQ; omega⟩
 have hv : ∀ i, U64 (vE Q X Y Z o R S T i) := fun i => by
  cases i with
  | zero => exact zba _ _ _
  | succ i => exact zba _ _ _
 have hw : ∀ w i, U64 (rhoE Q X o Rho w i) := fun w i => by
  cases i with
  | zero => exact (show U64 0 from ⟨by decide, by decide⟩)
  | succ i => exact zc2 _ _ _
 unfold exF
 split
 ·exact hm _
 split
 ·exact hm _
 split
 ·exact zbi _ _ _
 split
 ·exact hm _
 split
 ·exact zc2 _ _ _
 split
 ·exact zba _ _ _
 split
 ·exact hm _
 split
 ·exact hv _
 ·exact hw _ _
theorem zbI {P : Int} {F G : NI} : ∀ n, (∀ i, i < n -> F i = G i) -> prodI P F n = prodI P G n
 | 0, _ => rfl
 | n + 1, h => by
  show mulI (prodI P F n) (F n) P = mulI (prodI P G n) (G n) P
  rw [zbI n fun i hi => h i (by omega), h n (by omega)]
theorem imI_congr8 {P Q : Int} {B B' X X' : NI} {n : Nat} (hB : ∀ k, k < n -> B k = B' k) (hX : ∀ k, k < n -> X k = X' k) : imI P Q B X n = imI P Q B' X' n := by
 unfold imI
 exact zbI n fun k hk => by rw [hB k hk, hX k hk]
theorem uvI_congr {P Q X : Int} {n : Nat} {Ui Vi Ui' Vi' : NN} (hU : ∀ j, j < n -> ∀ w, w < 3 -> Ui j w = Ui' j w) (hV : ∀ j, j < n -> ∀ w, w < 3 -> Vi j w = Vi' j w) {e : Nat} (he : e < 6) : uvI P Q X n Ui Vi e = uvI P Q X n Ui' Vi' e := by
 unfold uvI
 split
 ·exact zbI n fun j hj => by rw [hU j hj _ (by omega)]
 ·exact zbI n fun j hj => by rw [hV j hj _ (by omega)]
theorem tgtT_congr {P Q G X Y Z : Int} {n : Nat} {A B Pp : NI} {Ui Vi Ui' Vi' : NN} (hU : ∀ j, j < n -> ∀ w, w < 3 -> Ui j w = Ui' j w) (hV : ∀ j, j < n -> ∀ w, w < 3 -> Vi j w = Vi' j w) {j : Nat} (hj : j < 4 * n + 6) : tgtT P Q G X Y Z n A B Pp Ui Vi j = tgtT P Q G X Y Z n A B Pp Ui' Vi' j := by
 unfold tgtT tgt8
 split
 ·rfl
 split
 ·rfl
 split
 ·rfl
 split
 ·rfl
 split
 ·rfl
 ·exact uvI_congr hU hV (by omega)
theorem zez {m n q : Nat} {W W' : NI} {z : Int} (h : ∀ i, i < n -> W i = W' i) : rowS8 m n W q z = rowS8 m n W' q z := by
 funext k
 unfold rowS8
 split
 ·exact h _ (by omega)
 ·rfl
theorem bas8_congr {n : Nat} {Pp : NI} {G H y : Int} {Uo Vo Uo' Vo' : NN} (hU : ∀ j, j < n -> ∀ w, w < 3 -> Uo j w = Uo' j w) (hV : ∀ j, j < n -> ∀ w, w < 3 -> Vo j w = Vo' j w) {j : Nat} (hj : j < 4 * n + 6) : bas8 n Pp G H y Uo Vo j = bas8 n Pp G H y Uo' Vo' j := by
 unfold bas8
 split
 ·rfl
 split
 ·rfl
 split
 ·rfl
 split
 ·rfl
 split
 ·rfl
 split
 ·exact zez fun i hi => hU i hi _ (by omega)
 ·exact zez fun i hi => hV i hi _ (by omega)
theorem zga {Q X : Int} {o : Nat -> Nat} {R R' : NN} {w n : Nat} (h : ∀ i, i < n -> R i w = R' i w) : ∀ i, i <= n -> rhoE Q X o R w i = rhoE Q X o R' w i
 | 0, _ => rfl
 | i + 1, hi => by
  show subI (rhoE Q X o R w i) (mulI (bE Q X o i) (R i w) Q) Q = subI (rhoE Q X o R' w i) (mulI (bE Q X o i) (R' i w) Q) Q
  rw [zga h i (by omega), h i (by omega)]
theorem exF_congr {Q X Y Z : Int} {n : Nat} {o : Nat -> Nat} {R S T : NI} {Rho Rho' : NN} (h : ∀ i, i < n -> ∀ w, w < 3 -> Rho i w = Rho' i w) {k : Nat} (hk : k < 7 * n + 3) : exF Q X Y Z n o R S T Rho k = exF Q X Y Z n o R S T Rho' k := by
 unfold exF
 split
 ·rfl
 split
 ·rfl
 split
 ·rfl
 split
 ·rfl
 split
 ·rfl
 split
 ·rfl
 split
 ·rfl
 split
 ·rfl
 ·exact zga (fun i hi => h i hi _ (by omega)) n (Nat.le_refl n)
structure Mix8 (P Q G H y : Int) (n : Nat) (C : NN) (O : NI) (Rh : NN) (R S T : NI) : Prop where
 gr : Righ P Q G
 hin : inI P Q H = true
 yin : inI P Q y = true
 n1 : 0 < n
 n8 : n <= 8
 ord : OrdP n O
 cin : ∀ j, j < n -> ∀ k, k < 6 -> inI P Q (C j k) = true
 r0 : ∀ i, i < n -> 0 <= R i
 s0 : ∀ i, i < n -> 0 <= S i
 t0 : ∀ i, i < n -> 0 <= T i
 w0 : ∀ i, i < n -> ∀ k, k < 3 -> 0 <= Rh i k
abbrev aF (P Q G H : Int) (O R : NI) : Nat -> Int := fun i => comI P Q G H (O i + 1) (R i)
abbrev bF (P Q G H X : Int) (O S : NI) : Nat -> Int := fun i => comI P Q G H (powI X (O i + 1) Q) (S i)
abbrev pF (P Q G H X Y Z : Int) (O R S T : NI) : Nat -> Int := thiI P Q G H X Y Z (aF P Q G H O R) (bF P Q G H X O S) O T
abbrev uC (C : NN) : Nat -> Nat -> Int := fun j w => C j (2 * w)
abbrev vC (C : NN) : Nat -> Nat -> Int := fun j w => C j (2 * w + 1)
section
variable {P Q G H y : Int} {n : Nat} {C : NN} {O : NI} {Rh : NN} {R S T : NI}
theorem Mix8.mixd (m : Mix8 P Q G H y n C O Rh R S T) (X : Int) {Y Z : Int} (hY : 0 <= Y) (hZ : 0 <= Z) :
  Mixd P Q G H X Y Z y n (fun i => (O i).toNat) R S T (fun i w => Rh i (min w 2)) (aF P Q G H O R) (bF P Q G H X O S) (pF P Q G H X Y Z O R S T) (uB C) (vB C) (uB (mixC P Q G y C O Rh)) (vB (mixC P Q G y C O Rh)) := by
 have hc : ∀ i, i < n -> (((O i).toNat : Nat) : Int) = O i := fun i hi => m.ord.cast hi
 refine ⟨m.gr, m.hin, m.yin, m.ord.ord, m.n1, hY, hZ, m.r0, m.s0, m.t0, fun i hi w => m.w0 i hi _ (by omega), fun i hi => by rw [hc i hi], fun i hi => ?_, rfl, fun i hi => ?_, fun j hj w => m.cin j hj _ (by omega), fun j hj w => m.cin j hj _ (by omega), fun i hi w => ?_, fun i hi w => ?_⟩
 ·unfold bE; rw [hc i hi]
 ·show mulI (expI P Q _ (facI Q X Y Z (O (i + 1) + 1))) _ P = _
  unfold dE bE facI
  rw [hc (i + 1) hi]
 ·unfold uB mixC
  rw [if_pos (by omega), show 2 * min w 2 / 2 = min w 2 by omega]
 ·unfold vB mixC
  rw [if_neg (by omega), show (2 * min w 2 + 1) / 2 = min w 2 by omega]
theorem uB_is {C : NN} (j w : Nat) (hw : w < 3) : uB C j w = uC C j w := by unfold uB; rw [show min w 2 = w by omega]
theorem vB_is {C : NN} (j w : Nat) (hw : w < 3) : vB C j w = vC C j w := by unfold vB; rw [show min w 2 = w by omega]
theorem Mix8.elms (m : Mix8 P Q G H y n C O Rh R S T) (X : Int) {Y Z : Int} (hY : 0 <= Y) (hZ : 0 <= Z) :
  Elms P Q G H y n (aF P Q G H O R) (bF P Q G H X O S) (pF P Q G H X Y Z O R S T) (uC C) (vC C) (uC (mixC P Q G y C O Rh)) (vC (mixC P Q G y C O Rh)) := by
 have e := (m.mixd X hY hZ).elms m.n8
 exact ⟨e.gr, e.hin, e.yin, e.n1, e.n8, e.a, e.b, e.p, fun j hj w hw => by rw [<- uB_is j w hw]; exact e.ui j hj w hw, fun j hj w hw => by rw [<- vB_is j w hw]; exact e.vi j hj w hw, fun j hj w hw => by rw [<- uB_is j w hw]; exact e.uo j hj w hw, fun j hj w hw => by rw [<- vB_is j w hw]; exact e.vo j hj w hw⟩
theorem Mix8.outs (m : Mix8 P Q G H y n C O Rh R S T) : ∀ j, j < n -> ∀ k, k < 6 -> inI P Q (mixC P Q G y C O Rh j k) = true := fun j hj k hk => by
 have e := m.elms 0 (Int.le_refl 0) (Int.le_refl 0)
 by_cases h : k % 2 = 0
 ·have := e.uo j hj (k / 2) (by omega)
  unfold uC at this
  rwa [show 2 * (k / 2) = k by omega] at this
 ·have := e.vo j hj (k / 2) (by omega)
  unfold vC at this
  rwa [show 2 * (k / 2) + 1 = k by omega] at this
theorem Mix8.clm (m : Mix8 P Q G H y n C O Rh R S T) (X : Int) {Y Z : Int} (hY : 0 <= Y) (hZ : 0 <= Z) :
  clmB P Q G y n C n (mixC P Q G y C O Rh) n (aF P Q G H O R) n (bF P Q G H X O S) n (pF P Q G H X Y Z O R S T) Y Z = true := by
 have e := m.elms X hY hZ
 have h1 := m.n1
 unfold clmB
 rw [Bool.and_eq_true_iff, Bool.and_eq_true_iff]
 exact ⟨zfS.2 ⟨⟨h1, m.n8⟩, rfl, rfl, rfl, rfl⟩, eltB_iff.2 ⟨m.yin, zaK.2 ⟨⟨h1, m.n8⟩, m.cin⟩, zaK.2 ⟨⟨h1, m.n8⟩, m.outs⟩, zaZ.2 e.a, zaZ.2 e.b, zaZ.2 e.p⟩, decide_eq_true rfl⟩
theorem Mix8.claim (m : Mix8 P Q G H y n C O Rh R S T) (X : Int) {Y Z : Int} (hY : 0 <= Y) (hZ : 0 <= Z) :
  IsClaim P Q (4 * n + 6) (tgtT P Q G X Y Z n (aF P Q G H O R) (bF P Q G H X O S) (pF P Q G H X Y Z O R S T) (uC C) (vC C)) (4 * n + 6) (fun _ => 7 * n + 3) (bas8 n (pF P Q G H X Y Z O R S T) G H y (uC (mixC P Q G y C O Rh)) (vC (mixC P Q G y C O Rh))) (7 * n + 3) := (m.elms X hY hZ).claim X Y Z
theorem Mix8.prov (m : Mix8 P Q G H y n C O Rh R S T) (X : Int) {Y Z : Int} (hY : 0 <= Y) (hZ : 0 <= Z) {nD : Nat} (hD : nD = 7 * n + 3) :
  provB (sizeN P Q (4 * n + 6) (tgtT P Q G X Y Z n (aF P Q G H O R) (bF P Q G H X O S) (pF P Q G H X Y Z O R S T) (uC C) (vC C)) (4 * n + 6) (fun _ => 7 * n + 3) (bas8 n (pF P Q G H X Y Z O R S T) G H y (uC (mixC P Q G y C O Rh)) (vC (mixC P Q G y C O Rh)))) (7 * n + 3) nD = true := by
 rw [(m.claim X hY hZ).size, hD]
 unfold provB
 rw [Bool.and_eq_true_iff]
 exact ⟨za2.2 ⟨by omega, rfl⟩, decide_eq_true rfl⟩
theorem Mix8.im (m : Mix8 P Q G H y n C O Rh R S T) (X : Int) {Y Z : Int} (hY : 0 <= Y) (hZ : 0 <= Z) {j : Nat} (hj : j < 4 * n + 6) :
  imI P Q (bas8 n (pF P Q G H X Y Z O R S T) G H y (uC (mixC P Q G y C O Rh)) (vC (mixC P Q G y C O Rh)) j) (exF Q X Y Z n (fun i => (O i).toNat) R S T Rh) (7 * n + 3) = tgtT P Q G X Y Z n (aF P Q G H O R) (bF P Q G H X O S) (pF P Q G H X Y Z O R S T) (uC C) (vC C) j := by
 have h := (m.mixd X hY hZ).holds hj
 rw [tgtT_congr (fun j _ w hw => uB_is j w hw) (fun j _ w hw => vB_is j w hw) hj, bas8_congr (fun j _ w hw => uB_is j w hw) (fun j _ w hw => vB_is j w hw) hj] at h
 rw [<- h]
 exact imI_congr8 (fun _ _ => rfl) fun k hk => exF_congr (fun i _ w hw => by rw [show min w 2 = w by omega]) hk
theorem Mix8.acc (m : Mix8 P Q G H y n C O Rh R S T) (X : Int) {Y Z ch : Int} (hY : 0 <= Y) (hZ : 0 <= Z) (hch : 0 <= ch) {D : NI} (hD : ∀ k, k < 7 * n + 3 -> 0 <= D k) :
  accB P Q (4 * n + 6) (tgtT P Q G X Y Z n (aF P Q G H O R) (bF P Q G H X O S) (pF P Q G H X Y Z O R S T) (uC C) (vC C)) (4 * n + 6) (fun _ => 7 * n + 3) (bas8 n (pF P Q G H X Y Z O R S T) G H y (uC (mixC P Q G y C O Rh)) (vC (mixC P Q G y C O Rh))) (4 * n + 6) (fun j => imI P Q (bas8 n (pF P Q G H X Y Z O R S T) G H y (uC (mixC P Q G y C O Rh)) (vC (mixC P Q G y C O Rh)) j) D (7 * n + 3)) ch (7 * n + 3) (fun k => ansI Q ch (exF Q X Y Z n (fun i => (O i).toNat) R S T Rh k) (D k)) = true := by
 have hc := m.claim X hY hZ
 refine zdW.2 ⟨by rw [hc.size]; exact za2.2 ⟨by omega, rfl⟩, rfl, fun j hj => ⟨m.gr.im_in _ (hc.bin j hj), ?_⟩⟩
 rw [hc.size, <- m.im X hY hZ hj]
 exact m.gr.im_ans _ (hc.bin j hj) (fun k _ => zdI m.gr.q1' k) hD hch
end
end
section
open Go Go.RowKit
structure OldT (T : TypeId) (w w' : World) : Prop where
 os : w'.os = w.os
 output : w'.output = w.output
 size : w.heap.size <= w'.heap.size
 block : ∀ k, k < w.heap.size -> w'.heap[k]? = w.heap[k]? ∨ ∃ cs cs', w.heap[k]? = some (.cells cs T (0, 0)) /\ w'.heap[k]? = some (.cells cs' T (0, 0)) /\ cs'.size = cs.size
theorem OldT.of {T : TypeId} {w w' : World} (h : Old w w') : OldT T w w' := ⟨h.os, h.output, h.size, fun k hk => Or.inl (h.block k hk)⟩
instance (T : TypeId) : OldR (OldT T) := ⟨fun _ _ h => .of h⟩
theorem zfK (w : World) (g : Nat) (cells cs : Array Value) (T : TypeId) (h : w.heap[g]? = some (.cells cs T (0, 0))) : (w.setRow g cells).heap[g]? = some (.cells cells T (0, 0)) := by
 have hlt := (Array.getElem?_eq_some_iff.1 h).1
 simp [World.setRow, Array.getElem?_modify, h]
theorem zeM (w : World) (g : Nat) (cells : Array Value) {k : Nat} (h : k ≠ g) : (w.setRow g cells).heap[k]? = w.heap[k]? := by
 simp [World.setRow, Array.getElem?_modify, Ne.symm h]
theorem OldT.setRow {T : TypeId} {w : World} {g : Nat} {cells cs : Array Value} (h : w.heap[g]? = some (.cells cs T (0, 0))) (hs : cells.size = cs.size) : OldT T w (w.setRow g cells) :=
 ⟨rfl, rfl, by rw [size_setRow]; exact Nat.le_refl _, fun k hk => by
  by_cases hk2 : k = g
  ·subst hk2
   exact Or.inr ⟨cs, cells, h, zfK _ _ _ _ _ h, hs⟩
  ·exact Or.inl (zeM _ _ _ hk2)⟩
theorem Nums.oldT {T : TypeId} (ht : T ≠ 22) {w w' : World} {base k : Nat} {v : Value} {F : NI} (h : Nums w base v k F) (ho : OldT T w w') : Nums w' base v k F := by
 refine ⟨h.1, ?_⟩
 rcases h.2 with hn | ⟨g, cap, cur, hv, hb, hg, rest⟩
 ·exact Or.inl hn
 ·refine Or.inr ⟨g, cap, cur, hv, hb, ?_, rest⟩
  rcases ho.block g (Array.getElem?_eq_some_iff.1 hg).1 with h2 | ⟨cs, cs', h2, _⟩
  ·exact h2.trans hg
  ·rw [hg] at h2
   cases h2
   exact absurd rfl ht
theorem BoxF.oldT {T : TypeId} (ht : T ≠ 74) {w w' : World} {a : OA} {n : Nat} {C : NN} (h : BoxF w a n C) (ho : OldT T w w') : BoxF w' a n C := by
 rcases h with h | ⟨b, ds, rfl, hb, hr⟩
 ·exact Or.inl h
 ·refine Or.inr ⟨b, ds, rfl, ?_, hr⟩
  rcases ho.block b (Array.getElem?_eq_some_iff.1 hb).1 with h2 | ⟨cs, cs', h2, _⟩
  ·exact h2.trans hb
  ·rw [hb] at h2
   cases h2
   exact absurd rfl ht
def numE {T : TypeId} (ht : T ≠ 22) (base n : Nat) (F : NI) : Ent2 (OldT T) := .u (fun v w => Nums w base v n F) fun _ _ _ h ho => h.oldT ht ho
def varE (T : TypeId) (n B : Nat) : Ent2 (OldT T) := .u (fun v w => ∃ b, v = .pointer (some ⟨b, 0, none⟩) /\ B <= b /\ ∃ cs, w.heap[b]? = some (.cells cs T (0, 0)) /\ cs.size = n) fun _ _ _ ⟨b, e, hb, cs, h, hs⟩ ho => ⟨b, e, hb, by
 rcases ho.block b (Array.getElem?_eq_some_iff.1 h).1 with h2 | ⟨ds, ds', h2, h3, h4⟩
 ·exact ⟨cs, h2.trans h, hs⟩
 ·rw [h] at h2
  cases h2
  exact ⟨ds', h3, h4.trans hs⟩⟩
def putE (T : TypeId) (i j B : Nat) : Ent2 (OldT T) := .d [i, j] (fun l _ w => ∃ b cs, l = [.pointer (some ⟨b, 0, none⟩), .agg cs] /\ B <= b /\ w.heap[b]? = some (.cells cs T (0, 0))) fun _ _ _ _ ⟨b, cs, e, hb, h⟩ ho => ⟨b, cs, e, hb, (ho.block b (Array.getElem?_eq_some_iff.1 h).1).trans h⟩
theorem zfq {P : Program} {ev : Operand -> Value} {dst : Option Tmp} {x : Operand} {i : Nat} {ty : TypeId} {pos : String} {after : Array Edge} {guard : Option (Nat × Bool)} {cs : Array Value} {v : Value} {w : World} (hx : ev x = .tuple cs) (hv : cs[i]? = some v) : (execOp ev ⟨dst, .extract x i, ty, pos, after, guard⟩).run P w = .ok (.value v) w := by
 simp [execOp, hx, hv, go_sem]
section
variable {T : TypeId} {P : Program} {ops : List Oper} {L0 : List Value} {E : List (Ent2 (OldT T))} {R : World -> Prop} {i : Nat}
theorem stPy {dst : Option Tmp} {ty : TypeId} {pos : String} {after : Array Edge} {guard : Option (Nat × Bool)} {x y : Operand} {a b B n : Nat} (cs : (Nat -> Value) -> Array Value -> Prop) (hR : ∀ w g cells, R w -> B <= g -> R (w.setRow g cells)) (h : ∀ (t : Nat -> Value) (wx : World), R wx -> (∀ k, needs ⟨dst, .store T x y, ty, pos, after, guard⟩ k = true -> okAt2 E k t wx) -> ∃ g c old, t a = .pointer (some ⟨g, 0, none⟩) /\ t b = .agg c /\ B <= g /\ wx.heap[g]? = some (.cells old T (0, 0)) /\ old.size = n /\ c.size = n /\ c.all (·.oneCell') = true) (hi : (P.info? T).map (·.size) = some n := by kernel_rfl) (ho : onlyD E i = true := by kernel_rfl) (hg : zfp E ⟨dst, .store T x y, ty, pos, after, guard⟩ = some true := by rfl) (hx : ∀ t, Act.eval ⟨(fill2 ops E t 0 L0).toArray, []⟩ x = t a := by intro _; kernel_rfl) (hy : ∀ t, Act.eval ⟨(fill2 ops E t 0 L0).toArray, []⟩ y = t b := by intro _; kernel_rfl) : StepT2 P ops L0 E R i ⟨dst, .store T x y, ty, pos, after, guard⟩ (putE T a b B) :=
 stgy (fun t wx hRx hd => by
  obtain ⟨g, c, old, ea, eb, hB, hrow, hs, hc, hone⟩ := h t wx hRx hd
  simp only [execOp, hx t, hy t, ea, eb, Instr.storeAt, Instr.sureAddr, Sem.run_bind, Sem.run_pure, Result.andThen_ok, run_storeVar_row wx g T T old c hrow (hi.trans (by rw [hc])) (hs.trans hc.symm) hone]
  exact ⟨hR _ _ _ hRx hB, Or.inr ⟨.setRow hrow (hc.trans hs.symm), ho⟩, g, c, by rw [<- ea, <- eb]; rfl, hB, zfK _ _ _ _ _ hrow⟩) hg
theorem OldT.trans {a b c : World} (h : OldT T a b) (k : OldT T b c) : OldT T a c :=
 ⟨k.os.trans h.os, k.output.trans h.output, Nat.le_trans h.size k.size, fun i hi => by
  rcases k.block i (Nat.lt_of_lt_of_le hi h.size) with h2 | ⟨ds, ds', h2, h3, h4⟩
  ·rw [h2]; exact h.block i hi
  ·rcases h.block i hi with h5 | ⟨cs, cs', h5, h6, h7⟩
   ·exact Or.inr ⟨ds, ds', h5.symm.trans h2, h3, h4⟩
   ·rw [h2] at h6
    cases h6
    exact Or.inr ⟨cs, ds', h5, h3, h4.trans h7⟩⟩
theorem OldT.row {S : TypeId} (ht : T ≠ S) {w w' : World} {b : Nat} {cs : Array Value} (ho : OldT T w w') (h : w.heap[b]? = some (.cells cs S (0, 0))) : w'.heap[b]? = some (.cells cs S (0, 0)) := by
 rcases ho.block b (Array.getElem?_eq_some_iff.1 h).1 with h2 | ⟨ds, ds', h2, _⟩
 ·exact h2.trans h
 ·rw [h] at h2
  cases h2
  exact absurd rfl ht
theorem OldT.kind {w w' : World} {b n : Nat} (ho : OldT T w w') (h : ∃ cs, w.heap[b]? = some (.cells cs T (0, 0)) /\ cs.size = n) : ∃ cs, w'.heap[b]? = some (.cells cs T (0, 0)) /\ cs.size = n := by
 obtain ⟨cs, h, hs⟩ := h
 rcases ho.block b (Array.getElem?_eq_some_iff.1 h).1 with h2 | ⟨ds, ds', h2, h3, h4⟩
 ·exact ⟨cs, h2.trans h, hs⟩
 ·rw [h] at h2
  cases h2
  exact ⟨ds', h3, h4.trans hs⟩
def rowE (T : TypeId) (g : Nat) (c : Array Value) : Ent2 (OldT T) := .d [] (fun _ _ w => w.heap[g]? = some (.cells c T (0, 0))) fun _ _ _ _ h ho => (ho.block _ (Array.getElem?_eq_some_iff.1 h).1).trans h
theorem stQy {dst : Option Tmp} {ty : TypeId} {pos : String} {after : Array Edge} {guard : Option (Nat × Bool)} {x y : Operand} {g n : Nat} {c : Array Value} (hR : ∀ w, R w -> R (w.setRow g c)) (hrow : ∀ w, R w -> ∃ old, w.heap[g]? = some (.cells old T (0, 0)) /\ old.size = n) (hc : c.size = n := by rfl) (hone : c.all (·.oneCell') = true := by simp [Value.oneCell']) (hi : (P.info? T).map (·.size) = some n := by kernel_rfl) (ho : onlyD E i = true := by kernel_rfl) (hg : zfp E ⟨dst, .store T x y, ty, pos, after, guard⟩ = some true := by rfl) (hx : ∀ t, Act.eval ⟨(fill2 ops E t 0 L0).toArray, []⟩ x = .pointer (some ⟨g, 0, none⟩) := by intro _; kernel_rfl) (hy : ∀ t, Act.eval ⟨(fill2 ops E t 0 L0).toArray, []⟩ y = .agg c := by intro _; kernel_rfl) : StepT2 P ops L0 E R i ⟨dst, .store T x y, ty, pos, after, guard⟩ (rowE T g c) :=
 stgy (fun t wx hRx hd => by
  obtain ⟨old, hrow, hs⟩ := hrow wx hRx
  simp only [execOp, hx t, hy t, Instr.storeAt, Instr.sureAddr, Sem.run_bind, Sem.run_pure, Result.andThen_ok, run_storeVar_row wx g T T old c hrow (hi.trans (by rw [hc])) (hs.trans hc.symm) hone]
  exact ⟨hR _ hRx, Or.inr ⟨.setRow hrow (hc.trans hs.symm), ho⟩, zfK _ _ _ _ _ hrow⟩) hg
end
end
section
open Go Go.RowKit
structure ClV (W : World) (s N : Nat) (T : NI) (Bs : NN) (i k : Nat) (v u : Value) (bk : Nat -> Nat) (w : World) : Prop where
 ly : Ly W s N [] T Bs i k v u bk w
 row : w.heap[s]? = some (.cells #[v, u] 50 (0, 0))
structure Fr (s k : Nat) (v u : Value) (bk : Nat -> Nat) (b : Nat) : Prop where
 v : v.ownBlock ≠ some b
 u : u.ownBlock ≠ some b
 k : ∀ j, j < k -> bk j ≠ b
 s : s + 1 <= b
def ClY (W : World) (s N : Nat) (T : NI) (Bs : NN) (k : Nat) (w : World) : Prop := ∃ v u bk, ClV W s N T Bs k k v u bk w
section
variable {W w w' : World} {s N : Nat} {T : NI} {Bs : NN} {i k : Nat} {v u : Value} {bk : Nat -> Nat} {b : Nat} {F : NI}
theorem ClV.old' (h : ClV W s N T Bs i k v u bk w) (ho : Old w w') : ClV W s N T Bs i k v u bk w' := ⟨h.ly.old' ho, (ho.block _ h.ly.big).trans h.row⟩
theorem ClY.old' (h : ClY W s N T Bs k w) (ho : Old w w') : ClY W s N T Bs k w' := let ⟨v, u, bk, h⟩ := h; ⟨v, u, bk, h.old' ho⟩
theorem ClY.old (h : ClY W s N T Bs k w) : Old W w := let ⟨_, _, _, h⟩ := h; h.ly.old
theorem ClV.y (h : ClV W s N T Bs k k v u bk w) : ClY W s N T Bs k w := ⟨v, u, bk, h⟩
theorem ClV.fr (h : ClV W s N T Bs i k v u bk w) (hb : w.heap.size <= b) : Fr s k v u bk b := by
 refine ⟨fun he => ?_, fun he => ?_, fun j hj he => ?_, ?_⟩
 ·have := (World.ownsRow.lt h.ly.nums b he).2; omega
 ·have := (World.ownsRow.lt h.ly.own b he).2; omega
 ·have := (h.ly.full j hj).2.lt; omega
 ·have := h.ly.big; omega
theorem ClV.c0 (h : ClV W s N T Bs i k v u bk w) : w.cell? ⟨s, 0, none⟩ = some v := Y0 h.row
theorem ClV.c1 (h : ClV W s N T Bs i k v u bk w) : w.cell? ⟨s, 1, none⟩ = some u := Y1 h.row
theorem Ly.tgtn {m g cap : Nat} (h : Ly W s N [] T Bs i k v u bk w) (hown : w'.ownsRow (s + 1) 22 1 (.slice (some ⟨g, 0, none⟩) (i + m) cap) (i + m) ((List.range (i + m)).map (fun j => Value.int .u64 (T j)))) (hg : w.grownBy w' v.ownBlock) (hat : v.ownBlock = some g ∨ g = w.heap.size) : Ly W s N [] T Bs (i + m) k (.slice (some ⟨g, 0, none⟩) (i + m) cap) u bk w' := by
 have hu := World.ownsRow.lt h.own
 refine ⟨h.old.grown hg fun b hb => ?_, h.ws, Nat.le_trans h.big hg.size, hown, h.own.kept hg ?_, fun j hj => ⟨(h.full j hj).1, (h.full j hj).2.grown hg (h.s1 j hj)⟩, h.inj, fun j hj he => ?_, h.s2, Or.inr fun he => ?_, fun e he => absurd he (by simp)⟩
 ·have := (World.ownsRow.lt h.nums b hb).1; have := h.ws; omega
 ·rcases h.s3 with h3 | h3
  ·rw [h3]; cases hx : u.ownBlock
   ·exact Or.inl rfl
   ·exact Or.inr (by simp)
  ·exact Or.inr h3
 ·have he' : g = bk j := by simpa [Value.ownBlock] using he
  rcases hat with h1 | h1
  ·exact h.s1 j hj (by rw [h1, he'])
  ·have := (h.full j hj).2.lt; omega
 ·have he' : u.ownBlock = some g := he
  rcases hat with h1 | h1
  ·rcases h.s3 with h3 | h3
   ·rw [h3] at h1; cases h1
   ·exact h3 (by rw [he', h1])
  ·have := (hu g he').2; omega
theorem ClV.tgtn {m g cap : Nat} (h : ClV W s N T Bs i k v u bk w) (hown : w'.ownsRow (s + 1) 22 1 (.slice (some ⟨g, 0, none⟩) (i + m) cap) (i + m) ((List.range (i + m)).map (fun j => Value.int .u64 (T j)))) (hg : w.grownBy w' v.ownBlock) (hat : v.ownBlock = some g ∨ g = w.heap.size) :
  w'.cell? ⟨s, 0, none⟩ = some v /\ w'.frozen? ⟨s, 0, none⟩ = false /\ ClV W s N T Bs (i + m) k (.slice (some ⟨g, 0, none⟩) (i + m) cap) u bk (w'.setCell ⟨s, 0, none⟩ (.slice (some ⟨g, 0, none⟩) (i + m) cap)) := by
 have hr : w'.heap[s]? = some (.cells #[v, u] 50 (0, 0)) := by
  rw [hg.block s (by have := h.ly.big; omega) (fun e => by have := (World.ownsRow.lt h.ly.nums _ e.symm).1; omega)]
  exact h.row
 refine ⟨Y0 hr, zac hr 0, (h.ly.tgtn hown hg hat).set 0 _, ?_⟩
 have := zaq hr 0 (.slice (some ⟨g, 0, none⟩) (i + m) cap)
 simpa using this
theorem Fr.tgt {n m g cap : Nat} (h : Fr s k v u bk b) (hg : w.grownBy w' v.ownBlock) (hat : v.ownBlock = some g ∨ g = w.heap.size) (hF : Full w b n F) : Fr s k (.slice (some ⟨g, 0, none⟩) m cap) u bk b /\ ∀ x j, Full (w'.setCell ⟨s, j, none⟩ x) b n F := by
 refine ⟨⟨fun he => ?_, h.u, h.k, h.s⟩, fun x j => (hF.grown hg h.v).other (p := ⟨s, j, none⟩) (by have := h.s; show b ≠ s; omega) _⟩
 have he' : g = b := by simpa [Value.ownBlock] using he
 rcases hat with h1 | h1
 ·exact h.v (by rw [h1, he'])
 ·have := hF.lt; omega
theorem ClV.bas {g cap : Nat} (h : ClV W s N T Bs i k v u bk w) (hf : Fr s k v u bk b) (hF : Full w b N F) (he : ∀ q, q < N -> F q = Bs k q) (hown : w'.ownsRow (s + 1) 29 1 (.slice (some ⟨g, 0, none⟩) (k + 1) cap) (k + 1) ((List.range k).map (fun j => Value.slice (some ⟨bk j, 0, none⟩) N N) ++ [.slice (some ⟨b, 0, none⟩) N N])) (hg : w.grownBy w' u.ownBlock) (hat : u.ownBlock = some g ∨ g = w.heap.size) :
  w'.cell? ⟨s, 1, none⟩ = some u /\ w'.frozen? ⟨s, 1, none⟩ = false /\ ClV W s N T Bs i (k + 1) v (.slice (some ⟨g, 0, none⟩) (k + 1) cap) (fun j => if j = k then b else bk j) (w'.setCell ⟨s, 1, none⟩ (.slice (some ⟨g, 0, none⟩) (k + 1) cap)) := by
 have hr : w'.heap[s]? = some (.cells #[v, u] 50 (0, 0)) := by
  rw [hg.block s (by have := h.ly.big; omega) (fun e => by have := (World.ownsRow.lt h.ly.own _ e.symm).1; omega)]
  exact h.row
 refine ⟨Y1 hr, zac hr 1, (h.ly.bas hf.s (hF.congr he) hf.v hf.u hf.k (fun e he => absurd he (by simp)) hown hg hat).set 1 _, ?_⟩
 have := zaq hr 1 (.slice (some ⟨g, 0, none⟩) (k + 1) cap)
 simpa using this
theorem Ly.bas2 {b1 b2 g cap : Nat} (h : Ly W s N [] T Bs i k v u bk w) (h1 : Fr s k v u bk b1) (h2 : Fr s k v u bk b2) (hne : b1 ≠ b2) (hF1 : Full w b1 N (Bs k)) (hF2 : Full w b2 N (Bs (k + 1))) (hown : w'.ownsRow (s + 1) 29 1 (.slice (some ⟨g, 0, none⟩) (k + 2) cap) (k + 2) ((List.range k).map (fun j => Value.slice (some ⟨bk j, 0, none⟩) N N) ++ [.slice (some ⟨b1, 0, none⟩) N N, .slice (some ⟨b2, 0, none⟩) N N])) (hg : w.grownBy w' u.ownBlock) (hat : u.ownBlock = some g ∨ g = w.heap.size) :
  Ly W s N [] T Bs i (k + 2) v (.slice (some ⟨g, 0, none⟩) (k + 2) cap) (fun j => if j = k then b1 else if j = k + 1 then b2 else bk j) w' := by
 have hv := World.ownsRow.lt h.nums
 have hcase : ∀ j, j < k + 2 -> (j = k /\ (if j = k then b1 else if j = k + 1 then b2 else bk j) = b1) ∨ (j = k + 1 /\ (if j = k then b1 else if j = k + 1 then b2 else bk j) = b2) ∨ (j < k /\ (if j = k then b1 else if j = k + 1 then b2 else bk j) = bk j) := fun j hj => by
  by_cases e1 : j = k
  ·exact Or.inl ⟨e1, if_pos e1⟩
  ·by_cases e2 : j = k + 1
   ·exact Or.inr (Or.inl ⟨e2, by rw [if_neg e1, if_pos e2]⟩)
   ·exact Or.inr (Or.inr ⟨by omega, by rw [if_neg e1, if_neg e2]⟩)
 refine ⟨h.old.grown hg fun c hc => ?_, h.ws, Nat.le_trans h.big hg.size, World.ownsRow.kept h.nums hg ?_, ?_, fun j hj => ?_, fun p q hp hq he => ?_, fun j hj he => ?_, fun j hj he => ?_, ?_, fun e he => absurd he (by simp)⟩
 ·have := (World.ownsRow.lt h.own c hc).1; have := h.ws; omega
 ·rcases h.s3 with h3 | h3
  ·exact Or.inl h3
  ·exact Or.inr (Ne.symm h3)
 ·have e : (List.range (k + 2)).map (fun j => Value.slice (some ⟨if j = k then b1 else if j = k + 1 then b2 else bk j, 0, none⟩) N N) = (List.range k).map (fun j => Value.slice (some ⟨bk j, 0, none⟩) N N) ++ [.slice (some ⟨b1, 0, none⟩) N N, .slice (some ⟨b2, 0, none⟩) N N] := by
   rw [show k + 2 = (k + 1) + 1 from rfl, List.range_succ, List.map_append, List.range_succ, List.map_append, List.append_assoc]
   congr 1
   ·refine List.map_congr_left fun j hj => ?_
    have := List.mem_range.1 hj
    rw [if_neg (by omega), if_neg (by omega)]
   ·simp
  rw [e]
  exact hown
 ·rcases hcase j hj with ⟨rfl, e⟩ | ⟨rfl, e⟩ | ⟨hj', e⟩
  ·rw [e]; exact ⟨h1.s, hF1.grown hg h1.u⟩
  ·rw [e]; exact ⟨h2.s, hF2.grown hg h2.u⟩
  ·rw [e]; exact ⟨(h.full j hj').1, (h.full j hj').2.grown hg (h.s2 j hj')⟩
 ·rcases hcase p hp with ⟨rfl, e⟩ | ⟨rfl, e⟩ | ⟨hp', e⟩ <;> rcases hcase q hq with ⟨h4, e'⟩ | ⟨h4, e'⟩ | ⟨hq', e'⟩ <;> rw [e, e'] at he
  ·exact h4.symm
  ·exact absurd he hne
  ·exact absurd he.symm (h1.k q hq')
  ·exact absurd he.symm hne
  ·exact h4.symm
  ·exact absurd he.symm (h2.k q hq')
  ·exact absurd he (h1.k p hp')
  ·exact absurd he (h2.k p hp')
  ·exact h.inj p q hp' hq' he
 ·rcases hcase j hj with ⟨rfl, e⟩ | ⟨rfl, e⟩ | ⟨hj', e⟩ <;> rw [e] at he
  ·exact h1.v he
  ·exact h2.v he
  ·exact h.s1 j hj' he
 ·have he' : g = if j = k then b1 else if j = k + 1 then b2 else bk j := by simpa [Value.ownBlock] using he
  rcases hcase j hj with ⟨rfl, e⟩ | ⟨rfl, e⟩ | ⟨hj', e⟩ <;> rw [e] at he' <;> rcases hat with h5 | h5
  ·exact h1.u (by rw [h5, he'])
  ·have := hF1.lt; omega
  ·exact h2.u (by rw [h5, he'])
  ·have := hF2.lt; omega
  ·exact h.s2 j hj' (by rw [h5, he'])
  ·have := (h.full j hj').2.lt; omega
 ·cases hvo : v.ownBlock with
  | none => exact Or.inl rfl
  | some c =>
   refine Or.inr fun he => ?_
   have he' : g = c := by simpa [Value.ownBlock] using he
   have hc := (hv c hvo).2
   rcases hat with h5 | h5
   ·rcases h.s3 with h3 | h3
    ·rw [h3] at hvo; cases hvo
    ·exact h3 (by rw [h5, hvo, he'])
   ·omega
theorem ClV.bas2 {b1 b2 g cap : Nat} {F1 F2 : NI} (h : ClV W s N T Bs i k v u bk w) (h1 : Fr s k v u bk b1) (h2 : Fr s k v u bk b2) (hne : b1 ≠ b2) (hF1 : Full w b1 N F1) (hF2 : Full w b2 N F2) (he1 : ∀ q, q < N -> F1 q = Bs k q) (he2 : ∀ q, q < N -> F2 q = Bs (k + 1) q) (hown : w'.ownsRow (s + 1) 29 1 (.slice (some ⟨g, 0, none⟩) (k + 2) cap) (k + 2) ((List.range k).map (fun j => Value.slice (some ⟨bk j, 0, none⟩) N N) ++ [.slice (some ⟨b1, 0, none⟩) N N, .slice (some ⟨b2, 0, none⟩) N N])) (hg : w.grownBy w' u.ownBlock) (hat : u.ownBlock = some g ∨ g = w.heap.size) :
  w'.cell? ⟨s, 1, none⟩ = some u /\ w'.frozen? ⟨s, 1, none⟩ = false /\ ClV W s N T Bs i (k + 2) v (.slice (some ⟨g, 0, none⟩) (k + 2) cap) (fun j => if j = k then b1 else if j = k + 1 then b2 else bk j) (w'.setCell ⟨s, 1, none⟩ (.slice (some ⟨g, 0, none⟩) (k + 2) cap)) := by
 have hr : w'.heap[s]? = some (.cells #[v, u] 50 (0, 0)) := by
  rw [hg.block s (by have := h.ly.big; omega) (fun e => by have := (World.ownsRow.lt h.ly.own _ e.symm).1; omega)]
  exact h.row
 refine ⟨Y1 hr, zac hr 1, (h.ly.bas2 h1 h2 hne (hF1.congr he1) (hF2.congr he2) hown hg hat).set 1 _, ?_⟩
 have := zaq hr 1 (.slice (some ⟨g, 0, none⟩) (k + 2) cap)
 simpa using this
theorem ClY.new (hs : W.heap.size <= s) (ho : Old W w) (hr : w.heap[s]? = some (.cells #[.slice none 0 0, .slice none 0 0] 50 (0, 0))) : ClY W s N T Bs 0 w :=
 ⟨.slice none 0 0, .slice none 0 0, fun _ => 0, ⟨ho, hs, by have := zag hr; omega, zaD _ _ _, World.ownsRow_nil _ _ _ _, fun j hj => by omega, fun i j hi => by omega, fun j hj => by omega, fun j hj => by omega, Or.inl rfl, fun e he => absurd he (by simp)⟩, hr⟩
theorem ClY.claim (h : ClY W s N T Bs k w) (hN : N <= 9223372036854775807) : ∃ v u, w.heap[s]? = some (.cells #[v, u] 50 (0, 0)) /\ Nums w (s + 1) v k T /\ Rws w (s + 1) u k (fun _ => N) Bs :=
 let ⟨v, u, bk, h⟩ := h; ⟨v, u, h.row, h.ly.nums, fun j => some ⟨bk j, 0, none⟩, fun _ => N, h.ly.own, fun j hj => (h.ly.full j hj).2.nums (h.ly.full j hj).1 hN⟩
def Row1 (w0 : World) (b N p : Nat) (w : World) : Prop := Old w0 w /\ ∃ c, Full w b N (fun r => if r = p then c else 1)
theorem Row1.old {w0 : World} {b N p : Nat} (w w' : World) (h : Row1 w0 b N p w) (ho : Old w w') : Row1 w0 b N p w' := ⟨h.1.trans ho, let ⟨c, h⟩ := h.2; ⟨c, h.old ho⟩⟩
theorem Row1.of {w0 : World} {p : Nat} (ho : Old w0 w) (h : Full w b N (fun _ => 1)) : Row1 w0 b N p w := ⟨ho, 1, h.congr fun r _ => by simp⟩
def zfI (b N p : Nat) (x : Int) : Ent := .u (fun _ w => Full w b N (fun r => if r = p then x else 1)) fun _ _ _ h ho => h.old ho
theorem row_stS {w0 : World} {E : List Ent} {j p : Nat} {x : Int} (hk : zfW E j = true) (hE : E[j]? = some (zfI b N p x)) (hp : p < N) (hb : w0.heap.size <= b) (wx : World) (h : Row1 w0 b N p wx) :
  (∃ o, wx.cell? ⟨b, p, none⟩ = some o) /\ wx.frozen? ⟨b, p, none⟩ = false /\ ResT E (Row1 w0 b N p) (zfI b N p x) wx undef (wx.setCell ⟨b, p, none⟩ (.int .u64 x)) := by
 obtain ⟨ho, c, hF⟩ := h
 have hn : Full (wx.setCell ⟨b, p, none⟩ (.int .u64 x)) b N (fun r => if r = p then x else 1) := (hF.set p x).congr fun r _ => by
  by_cases h1 : r = p <;> simp [h1]
 exact ⟨⟨_, hF.cell p hp⟩, hF.free p, zf8 hk hE ⟨ho.setCell (p := ⟨b, p, none⟩) hb _, x, hn⟩ fun _ => hn⟩
theorem zcB {p q : Nat} {x z : Int} (hF : Full w b N (fun r => if r = p then x else 1)) (hpq : p ≠ q) : Full (w.setCell ⟨b, q, none⟩ (.int .u64 z)) b N (row28 p x q z) := (hF.set q z).congr fun r _ => by
 unfold row28
 by_cases h1 : r = q
 ·subst h1; simp [Ne.symm hpq]
 ·simp [h1]
end
end
end Go.Proofs.YtlnmjbbpenhdbaaGreat
