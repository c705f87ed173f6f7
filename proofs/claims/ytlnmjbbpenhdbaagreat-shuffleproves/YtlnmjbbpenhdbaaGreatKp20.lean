/-
  What the proof needs, part 20.
-/
import Derived.Test.YtlnmjbbpenhdbaaGreatKp19
import Derived.Test.YtlnmjbbpenhdbaaGreatKp06
import Derived.Test.YtlnmjbbpenhdbaaGreatKp17
import Derived.Test.YtlnmjbbpenhdbaaGreatKp16
import Derived.Test.YtlnmjbbpenhdbaaGreatKp11
namespace Go.Proofs.YtlnmjbbpenhdbaaGreat
set_option linter.unusedSimpArgs false
set_option linter.unusedVariables false
set_option maxRecDepth 100000
set_option maxHeartbeats 32000000
section
open Go.RowKit
theorem own_slice8 {w : World} {base : Nat} {e : TypeId} {size : Nat} {v : Value} {n : Nat} {xs : List Value} (h : w.ownsRow base e size v n xs) : ∃ b c, v = .slice b n c := by
 rcases h.2 with ⟨rfl, rfl⟩ | ⟨g, cap, cur, rfl, _⟩
 · exact ⟨none, 0, rfl⟩
 · exact ⟨_, cap, rfl⟩
def GivD (w : World) (ok : Bool) (nt : Nat) (T : Nat -> Int) (L : Nat -> Nat) (B : Nat -> Nat -> Int) (r : Ending) (w' : World) : Prop :=
 Old w w' /\ ∃ v u, r = .returned (.tuple #[.agg #[v, u], .bool ok]) /\ Nums w' w.heap.size v (if ok then nt else 0) T /\ Rws w' w.heap.size u (if ok then nt else 0) L B
theorem givD_no {w W' wx : World} {b nt : Nat} {T : Nat -> Int} {L : Nat -> Nat} {B : Nat -> Nat -> Int} {ok : Bool} (hk : ok = false) (hb : w.heap.size <= b) (h : Old w wx) : GivD w ok nt T L B (.returned (.tuple #[.agg #[.slice none 0 0, .slice none 0 0], .bool false])) ((wx.setCell ⟨b, 0, none⟩ (.slice none 0 0)).setCell ⟨b, 1, none⟩ (.slice none 0 0)) := by
 subst hk
 exact ⟨(h.setCell (p := ⟨b, 0, none⟩) hb _).setCell (p := ⟨b, 1, none⟩) hb _, _, _, rfl, nums_nil _ _ _, fun _ => none, fun _ => 0, World.ownsRow_nil _ _ _ _, fun j hj => by simp at hj⟩
theorem givD_yes {w w' : World} {b base nt : Nat} {T : Nat -> Int} {L : Nat -> Nat} {B : Nat -> Nat -> Int} {ok : Bool} {v u : Value} (hk : ok = true) (hb : w.heap.size <= b) (hbb : b < base) (h : Old w w') (h1 : Nums w' base v nt T) (h2 : Rws w' base u nt L B) : GivD w ok nt T L B (.returned (.tuple #[.agg #[v, u], .bool true])) ((w'.setCell ⟨b, 0, none⟩ v).setCell ⟨b, 1, none⟩ u) := by
 subst hk
 exact ⟨(h.setCell (p := ⟨b, 0, none⟩) hb _).setCell (p := ⟨b, 1, none⟩) hb _, v, u, rfl, (ownsRow_setCell_below (ownsRow_setCell_below h1 (a := ⟨b, 0, none⟩) hbb _) (a := ⟨b, 1, none⟩) hbb _).mono (by omega), ((h2.below (p := ⟨b, 0, none⟩) hbb _).below (p := ⟨b, 1, none⟩) hbb _).mono (by omega)⟩
section
variable {P Q G H X Y Z y : Int} {n : Nat} {A B Pp : Nat -> Int} {C O : Nat -> Nat -> Int}
theorem tgt_a {i : Nat} (h : i < n) : (tgtT P Q G X Y Z n A B Pp (fun j w => C j (2 * w)) (fun j w => C j (2 * w + 1))) i = A i := by unfold tgtT tgt8; rw [if_pos h]
theorem tgt_b {i : Nat} (h : i < n) : (tgtT P Q G X Y Z n A B Pp (fun j w => C j (2 * w)) (fun j w => C j (2 * w + 1))) (n + i) = B i := by unfold tgtT tgt8; rw [if_neg (by omega), if_pos (by omega)]; congr 1; omega
theorem tgt_d {i : Nat} (h : i < n) : (tgtT P Q G X Y Z n A B Pp (fun j w => C j (2 * w)) (fun j w => C j (2 * w + 1))) (2 * n + i) = bigI P Q G (A i) (B i) Y Z := by unfold tgtT tgt8; rw [if_neg (by omega), if_neg (by omega), if_pos (by omega), show 2 * n + i - 2 * n = i by omega]
theorem tgt_p {i : Nat} (h : i + 1 < n) : (tgtT P Q G X Y Z n A B Pp (fun j w => C j (2 * w)) (fun j w => C j (2 * w + 1))) (3 * n + i) = Pp (i + 1) := by unfold tgtT tgt8; rw [if_neg (by omega), if_neg (by omega), if_neg (by omega), if_pos (by omega)]; congr 1; omega
theorem tgt_l (h : 0 < n) : (tgtT P Q G X Y Z n A B Pp (fun j w => C j (2 * w)) (fun j w => C j (2 * w + 1))) (3 * n + (n - 1)) = lastI P Q G X Y Z n (Pp (n - 1)) := by unfold tgtT tgt8; rw [if_neg (by omega), if_neg (by omega), if_neg (by omega), if_neg (by omega), if_pos (by omega)]
theorem tgt_u {e : Nat} (h : 0 < n) : (tgtT P Q G X Y Z n A B Pp (fun j w => C j (2 * w)) (fun j w => C j (2 * w + 1))) (4 * n + 2 * e) = prodI P (fun j => expI P Q (C j (2 * e)) (powI X ((j : Int) + 1) Q)) n := by
 unfold tgtT tgt8
 rw [if_neg (by omega), if_neg (by omega), if_neg (by omega), if_neg (by omega), if_neg (by omega), show 4 * n + 2 * e - 4 * n = 2 * e by omega]
 unfold uvI
 rw [if_pos (by omega), show 2 * e / 2 = e by omega]
theorem tgt_v {e : Nat} (h : 0 < n) : (tgtT P Q G X Y Z n A B Pp (fun j w => C j (2 * w)) (fun j w => C j (2 * w + 1))) (4 * n + 2 * e + 1) = prodI P (fun j => expI P Q (C j (2 * e + 1)) (powI X ((j : Int) + 1) Q)) n := by
 unfold tgtT tgt8
 rw [if_neg (by omega), if_neg (by omega), if_neg (by omega), if_neg (by omega), if_neg (by omega), show 4 * n + 2 * e + 1 - 4 * n = 2 * e + 1 by omega]
 unfold uvI
 rw [if_neg (by omega), show (2 * e + 1) / 2 = e by omega]
theorem bas_a {i : Nat} (h : i < n) : (bas8 n Pp G H y (fun j w => O j (2 * w)) (fun j w => O j (2 * w + 1))) i = row28 i G (n + i) H := by unfold bas8; rw [if_pos h]
theorem bas_b {i : Nat} (h : i < n) : (bas8 n Pp G H y (fun j w => O j (2 * w)) (fun j w => O j (2 * w + 1))) (n + i) = row28 (2 * n + i) G (3 * n + i) H := by unfold bas8; rw [if_neg (by omega), if_pos (by omega), show n + i - n = i by omega]
theorem bas_d {i : Nat} (h : i < n) : (bas8 n Pp G H y (fun j w => O j (2 * w)) (fun j w => O j (2 * w + 1))) (2 * n + i) = row28 (4 * n + i) G (5 * n + i) H := by unfold bas8; rw [if_neg (by omega), if_neg (by omega), if_pos (by omega), show 2 * n + i - 2 * n = i by omega]
theorem bas_p {i : Nat} (h : i + 1 < n) : (bas8 n Pp G H y (fun j w => O j (2 * w)) (fun j w => O j (2 * w + 1))) (3 * n + i) = row28 (4 * n + (i + 1)) (Pp i) (6 * n + i) H := by unfold bas8; rw [if_neg (by omega), if_neg (by omega), if_neg (by omega), if_pos (by omega), show 3 * n + i - 3 * n = i by omega]
theorem bas_l (h : 0 < n) : (bas8 n Pp G H y (fun j w => O j (2 * w)) (fun j w => O j (2 * w + 1))) (3 * n + (n - 1)) = row18 (7 * n - 1) H := by unfold bas8; rw [if_neg (by omega), if_neg (by omega), if_neg (by omega), if_neg (by omega), if_pos (by omega)]
theorem bas_u {e : Nat} (h : 0 < n) : (bas8 n Pp G H y (fun j w => O j (2 * w)) (fun j w => O j (2 * w + 1))) (4 * n + 2 * e) = rowS8 (2 * n) n (fun i => O i (2 * e)) (7 * n + e) G := by
 unfold bas8
 rw [if_neg (by omega), if_neg (by omega), if_neg (by omega), if_neg (by omega), if_neg (by omega), show 4 * n + 2 * e - 4 * n = 2 * e by omega, if_pos (by omega), show 2 * e / 2 = e by omega]
theorem bas_v {e : Nat} (h : 0 < n) : (bas8 n Pp G H y (fun j w => O j (2 * w)) (fun j w => O j (2 * w + 1))) (4 * n + 2 * e + 1) = rowS8 (2 * n) n (fun i => O i (2 * e + 1)) (7 * n + e) y := by
 unfold bas8
 rw [if_neg (by omega), if_neg (by omega), if_neg (by omega), if_neg (by omega), if_neg (by omega), show 4 * n + 2 * e + 1 - 4 * n = 2 * e + 1 by omega, if_neg (by omega), show (2 * e + 1) / 2 = e by omega]
end
theorem LayB.new (W : World) (n : Nat) (Ks : List (Nat × Obj)) (T : Nat -> Int) (R : Nat -> Nat -> Int) (hK : ∀ e, e ∈ Ks -> W.heap[e.1]? = some e.2) : LayB W W.heap.size n Ks T R 0 [] (W.alloc (.cells #[.int .i64 (n : Int), .slice none 0 0, .slice none 0 0] 109)) :=
 ⟨.slice none 0 0, .slice none 0 0, fun _ => 0, fun e he => by simp at he, ⟨(Old.refl _).alloc _, Nat.le_refl _, by simp, nums_nil _ _ _, World.ownsRow_nil _ _ _ _, fun j hj => by omega, fun i j hi => by omega, fun j hj => by omega, fun j hj => by omega, Or.inl rfl, fun e he => ⟨(((Old.refl W).alloc _).block _ (obj_lt (hK e he))).trans (hK e he), Nat.ne_of_lt (obj_lt (hK e he)), by simp [Value.ownBlock], by simp [Value.ownBlock], fun j hj => by omega⟩⟩, heap_alloc_last _ _⟩
theorem LayB.claim {W w : World} {s n k : Nat} {Ks : List (Nat × Obj)} {T : Nat -> Int} {R : Nat -> Nat -> Int} (h : LayB W s n Ks T R k [] w) (hn : n <= 8) : ∃ v u, w.heap[s]? = some (.cells #[.int .i64 (n : Int), v, u] 109 (0, 0)) /\ Nums w (s + 1) v k T /\ Rws w (s + 1) u k (fun _ => 7 * n + 3) R :=
 let ⟨v, u, bk, _, h⟩ := h; ⟨v, u, h.row, h.ly.nums, fun j => some ⟨bk j, 0, none⟩, fun _ => 7 * n + 3, h.ly.own, fun j hj => (h.ly.full j hj).2.nums (h.ly.full j hj).1 (by omega)⟩
theorem lclm_any (P Q G H : Int) (a : Option Addr) (m cap : Nat) (y : Int) (bi : Option Addr) (ci : Nat) (C : Nat -> Nat -> Int) (bo : Option Addr) (co : Nat) (O : Nat -> Nat -> Int) (ba : Option Addr) (ca : Nat) (A : Nat -> Int) (X : Int) (bb : Option Addr) (cb : Nat) (B : Nat -> Int) (Y Z : Int) (bp : Option Addr) (cp : Nat) (Pp : Nat -> Int) (n : Nat) (w : World) (h1n : 0 < n) (hn : n <= 8) (h4 : Four P Q G H) (hr : Righ P Q G) (hy : U64 y) (hX : U64 X) (hY : U64 Y) (hZ : U64 Z) (hC : BoxsIn w bi n C) (hO : BoxsIn w bo n O) (hA : FacsIn w ba n A) (hB : FacsIn w bb n B) (hP : FacsIn w bp n Pp) :
  Calls Tryz.prog 28 #[gv P Q G H a m cap, .int .u64 y, .slice bi n ci, .slice bo n co, tk ba n ca X bb n cb Y Z bp n cp] w (GivD w (eltB P Q y n C n O n A n B n Pp && decide (Pp 0 = bigI P Q G (A 0) (B 0) Y Z)) (4 * n + 6) (tgtT P Q G X Y Z n A B Pp (fun j w => C j (2 * w)) (fun j w => C j (2 * w + 1))) (fun _ => 7 * n + 3) (bas8 n Pp G H y (fun j w => O j (2 * w)) (fun j w => O j (2 * w + 1)))) := by
 obtain ⟨T, hT⟩ : ∃ T, T = tgtT P Q G X Y Z n A B Pp (fun j w => C j (2 * w)) (fun j w => C j (2 * w + 1)) := ⟨_, rfl⟩
 obtain ⟨R, hR⟩ : ∃ R, R = bas8 n Pp G H y (fun j w => O j (2 * w)) (fun j w => O j (2 * w + 1)) := ⟨_, rfl⟩
 rw [<- hT, <- hR]
 have HCom : Hid (∀ (W : World) s Ks wx, Old w W -> LayB W s n Ks T R 0 [] wx -> Calls Tryz.prog 81 #[.pointer (some ⟨s, 0, none⟩), gv P Q G H a m cap, tk ba n ca X bb n cb Y Z bp n cp] wx fun e w' => e = .returned (.tuple #[]) /\ LayB W s n Ks T R (3 * n) [] w') := fun W s Ks wx ho h => lcom_any W s n Ks T R P Q G H a m cap ba ca A X bb cb B Y Z bp n cp wx h1n hn h4 hr hY hZ (hA.old ho) (hB.old ho) (fun i hi => by rw [hT]; exact tgt_a hi) (fun i hi => by rw [hT]; exact tgt_b hi) (fun i hi => by rw [hT]; exact tgt_d hi) (fun i hi => by rw [hR]; exact bas_a hi) (fun i hi => by rw [hR]; exact bas_b hi) (fun i hi => by rw [hR]; exact bas_d hi) h
 have HPro : Hid (∀ (W : World) s Ks wx, Old w W -> LayB W s n Ks T R (3 * n) [] wx -> Calls Tryz.prog 82 #[.pointer (some ⟨s, 0, none⟩), gv P Q G H a m cap, tk ba n ca X bb n cb Y Z bp n cp] wx fun e w' => e = .returned (.tuple #[]) /\ LayB W s n Ks T R (4 * n) [] w') := fun W s Ks wx ho h => lprod_any W s n Ks T R P Q G H a m cap ba n ca X bb n cb Y Z bp cp Pp wx h1n hn h4 hr hX hY hZ (hP.old ho) (fun i hi => by rw [hT]; exact tgt_p hi) (by rw [hT]; exact tgt_l h1n) (fun i hi => by rw [hR]; exact bas_p hi) (by rw [hR]; exact bas_l h1n) h
 have HSum : Hid (∀ (W : World) s Ks wx e, e < 3 -> Old w W -> LayB W s n Ks T R (4 * n + 2 * e) [] wx -> Calls Tryz.prog 83 #[.pointer (some ⟨s, 0, none⟩), gv P Q G H a m cap, .int .u64 y, .slice bi n ci, .slice bo n co, tk ba n ca X bb n cb Y Z bp n cp, .int .i64 (e : Int)] wx fun r w' => r = .returned (.tuple #[]) /\ LayB W s n Ks T R (4 * n + 2 * e + 2) [] w') := fun W s Ks wx e he ho h => lsum_any W s n Ks T R P Q G H a m cap y bi ci C bo co O ba n ca X bb n cb Y Z bp n cp e (4 * n + 2 * e) wx h1n hn he (by omega) h4 hr hX (hC.old ho) (hO.old ho) (by rw [hT]; exact tgt_u h1n) (by rw [hT]; exact tgt_v h1n) (by rw [hR]; exact bas_u h1n) (by rw [hR]; exact bas_v h1n) h
 have HJ : Hid (∀ wx, Old w wx -> Calls Tryz.prog 63 #[gv P Q G H a m cap, tk ba n ca X bb n cb Y Z bp n cp, .int .i64 0] wx (Ret wx (.int .u64 (bigI P Q G (A 0) (B 0) Y Z)))) := fun wx ho => sjoined_any P Q G H a m cap ba n ca A X bb n cb B Y Z bp n cp 0 wx h4 hr hY hZ (hA.old ho) (hB.old ho) h1n h1n
 have HE : Hid (∀ wx, Old w wx -> Calls Tryz.prog 80 #[gv P Q G H a m cap, .int .u64 y, .slice bi n ci, .slice bo n co, tk ba n ca X bb n cb Y Z bp n cp] wx (Ret wx (.bool (eltB P Q y n C n O n A n B n Pp)))) := fun wx ho => sallel_any P Q G H a m cap y bi n ci C bo n co O ba n ca A X bb n cb B Y Z bp n cp Pp wx h4 hy (by omega) (by omega) (hC.old ho) (hO.old ho) (by omega) (by omega) (by omega) (hA.old ho) (hB.old ho) (hP.old ho)
 have HSz : Hid (∀ wx, Calls Tryz.prog 79 #[.slice bi n ci, .slice bo n co, tk ba n ca X bb n cb Y Z bp n cp] wx (Ret wx (.bool true))) := fun wx => by
  have := ssizes_any bi n ci bo n co ba n ca X bb n cb Y Z bp n cp wx (by omega)
  rwa [show fitB n n n n n = true from fitB_iff.2 ⟨⟨h1n, hn⟩, rfl, rfl, rfl, rfl⟩] at this
 rcases hP with h0 | ⟨bp, op, rfl, _, hrp⟩
 · omega
 have HPc : Hid (∀ wx, Old w wx -> wx.cell? ⟨bp, op, none⟩ = some (.int .u64 (Pp 0))) := fun wx ho => ho.cellOf (hrp 0 h1n).1
 clear hT hR hrp h4 hr hy hX hY hZ hC hO hA hB
 have HZ := lain3 w (gc P Q G H a m cap) (tkc ba n ca X bb n cb Y Z (some ⟨bp, op, none⟩) n cp) (cc none 0 0 none 0 0) 25 41 50
 have HG0 := fun w' ho => (HZ.then (W' := w') ho).row 0 (by simp)
 have HT0 := fun w' ho => (HZ.then (W' := w') ho).row 1 (by simp)
 have HC0 := fun w' ho => (HZ.then (W' := w') ho).row 2 (by simp)
 have HW0 : Hid (Old w (((w.alloc (.cells (gc P Q G H a m cap) 25)).alloc (.cells (tkc ba n ca X bb n cb Y Z (some ⟨bp, op, none⟩) n cp) 41)).alloc (.cells (cc none 0 0 none 0 0) 50))) := HZ.old
 clear HZ
 obtain ⟨D0, hD⟩ : ∃ D0, D0 = bigI P Q G (A 0) (B 0) Y Z := ⟨_, rfl⟩
 rw [<- hD] at HJ ⊢
 clear hD
 cases hE : eltB P Q y n C n O n A n B n Pp with
 | false =>
  rw [hE] at HE
  have HV : Hid ((false && decide (Pp 0 = D0)) = false) := rfl
  go_enter Tryz.func28, Tryz.ntmps28
  go_upto_region 1 with fail
  generalize ((w.alloc (.cells (gc P Q G H a m cap) 25)).alloc (.cells (tkc ba n ca X bb n cb Y Z (some ⟨bp, op, none⟩) n cp) 41)).alloc (.cells (cc none 0 0 none 0 0) 50) = W1 at *
  have HG : Hid (∀ wx, Old W1 wx -> wx.heap[w.heap.size]? = some (.cells (gc P Q G H a m cap) 25 (0, 0))) := HG0
  have HTk : Hid (∀ wx, Old W1 wx -> wx.heap[w.heap.size + 1]? = some (.cells (tkc ba n ca X bb n cb Y Z (some ⟨bp, op, none⟩) n cp) 41 (0, 0))) := HT0
  have HCl : Hid (∀ wx, Old W1 wx -> wx.heap[w.heap.size + 1 + 1]? = some (.cells (cc none 0 0 none 0 0) 50 (0, 0))) := HC0
  clear HG0 HT0 HC0
  obtain ⟨gb, hgb⟩ : ∃ gb, gb = w.heap.size := ⟨_, rfl⟩
  rw [<- hgb] at HG HTk HCl
  rw [<- hgb]
  have Hgb : Hid (w.heap.size <= gb + 1 + 1) := by unfold Hid; omega
  clear hgb
  refine wp_region_tab 24 [.k (.slice bi n ci), .k (.slice bo n co), .k (tk ba n ca X bb n cb Y Z (some ⟨bp, op, none⟩) n cp), .k (.bool true), .k (.bool false), .k (.bool false), .k (gv P Q G H a m cap), .k (.int .u64 y), .k (.slice bi n ci), .k (.slice bo n co), .k (tk ba n ca X bb n cb Y Z (some ⟨bp, op, none⟩) n cp), .k (.bool false), .k (.bool true), .k (.bool true), .k (.bool true), .k undef, .k undef, .k undef, .k undef, .k undef, .k undef, .k undef, .k undef, .k (.bool true)] (Old W1) (by kernel_rfl) (by kernel_rfl) rfl ((Old.refl _).drew) ?st ?_
  case st =>
   refine .c stp <| .c stp <| .c (sts Tryz.underlying41 HTk.out) <| .c (stK old_R Tryz.func79 (fun wx _ => HSz.out wx)) <| .c stp <| .c stp <| .c (sts Tryz.underlying25 HG.out) <| .c stp <| .c stp <| .c stp <| .c (sts Tryz.underlying41 HTk.out) <| .c (stK old_R Tryz.func80 (fun wx hR => HE.out wx (HW0.out.trans hR))) <| .c stp <| .c stp <| .c stp <| .c stn <| .c stn <| .c stn <| .c stn <| .c stn <| .c stn <| .c stn <| .c stn <| .c stp .n
  intro t wx hR hk
  simp only [fill, Ent.val, List.set_cons_zero, List.set_cons_succ, List.drop_succ_cons, List.drop_zero, List.drop_nil]
  have hrow := HCl.out _ hR
  have q0 : wx.cell? ⟨gb + 1 + 1, 0, none⟩ = some (.slice none 0 0) := cell_of_row _ _ 0 _ _ (0, 0) hrow
  have q1 : wx.cell? ⟨gb + 1 + 1, 1, none⟩ = some (.slice none 0 0) := cell_of_row _ _ 1 _ _ (0, 0) hrow
  have f0 : wx.frozen? ⟨gb + 1 + 1, 0, none⟩ = false := row_frozen hrow 0
  have f1 : wx.frozen? ⟨gb + 1 + 1, 1, none⟩ = false := row_frozen hrow 1
  have HRh : Hid (wx.heap[gb + 1 + 1]? = some (.cells #[.slice none 0 0, .slice none 0 0] 50 (0, 0))) := hrow
  have HOw : Hid (Old w wx) := HW0.out.trans hR
  clear hrow hR hk HCom HPro HSum HJ HE HSz HPc HG HTk HCl
  go_wp2_with fail
  exact bodyPost_ret (result_pair (b := gb + 1 + 1) rfl rfl rfl (load_two HRh.out Tryz.underlying50 info_claim)) rfl (givD_no (W' := wx) HV.out Hgb.out HOw.out)
 | true =>
  rw [hE] at HE
  by_cases hd : Pp 0 = D0
  · have HV : Hid ((true && decide (Pp 0 = D0)) = true) := by unfold Hid; simp [hd]
   have hne : Value.bool (!(Pp 0 == D0)) = .bool false := by simp [hd]
   go_enter Tryz.func28, Tryz.ntmps28
   go_upto_region 1 with fail
   generalize ((w.alloc (.cells (gc P Q G H a m cap) 25)).alloc (.cells (tkc ba n ca X bb n cb Y Z (some ⟨bp, op, none⟩) n cp) 41)).alloc (.cells (cc none 0 0 none 0 0) 50) = W1 at *
   have HG : Hid (∀ wx, Old W1 wx -> wx.heap[w.heap.size]? = some (.cells (gc P Q G H a m cap) 25 (0, 0))) := HG0
   have HTk : Hid (∀ wx, Old W1 wx -> wx.heap[w.heap.size + 1]? = some (.cells (tkc ba n ca X bb n cb Y Z (some ⟨bp, op, none⟩) n cp) 41 (0, 0))) := HT0
   have HCl : Hid (∀ wx, Old W1 wx -> wx.heap[w.heap.size + 1 + 1]? = some (.cells (cc none 0 0 none 0 0) 50 (0, 0))) := HC0
   clear HG0 HT0 HC0
   obtain ⟨gb, hgb⟩ : ∃ gb, gb = w.heap.size := ⟨_, rfl⟩
   rw [<- hgb] at HG HTk HCl
   rw [<- hgb]
   have Hgb : Hid (w.heap.size <= gb + 1 + 1) := by unfold Hid; omega
   clear hgb
   refine wp_region_tab 24 [.k (.slice bi n ci), .k (.slice bo n co), .k (tk ba n ca X bb n cb Y Z (some ⟨bp, op, none⟩) n cp), .k (.bool true), .k (.bool false), .k (.bool false), .k (gv P Q G H a m cap), .k (.int .u64 y), .k (.slice bi n ci), .k (.slice bo n co), .k (tk ba n ca X bb n cb Y Z (some ⟨bp, op, none⟩) n cp), .k (.bool true), .k (.bool false), .k (.bool false), .k (.bool false), .k (.pointer (some ⟨gb + 1, 5, none⟩)), .k (.slice (some ⟨bp, op, none⟩) n cp), .k (.pointer (some ⟨bp, op, none⟩)), .k (.int .u64 (Pp 0)), .k (gv P Q G H a m cap), .k (tk ba n ca X bb n cb Y Z (some ⟨bp, op, none⟩) n cp), .k (.int .u64 D0), .k (.bool false), .k (.bool false)] (Old W1) (by kernel_rfl) (by kernel_rfl) rfl ((Old.refl _).drew) ?st ?_
   case st =>
    refine .c stp <| .c stp <| .c (sts Tryz.underlying41 HTk.out) <| .c (stK old_R Tryz.func79 (fun wx _ => HSz.out wx)) <| .c stp <| .c stp <| .c (sts Tryz.underlying25 HG.out) <| .c stp <| .c stp <| .c stp <| .c (sts Tryz.underlying41 HTk.out) <| .c (stK old_R Tryz.func80 (fun wx hR => HE.out wx (HW0.out.trans hR))) <| .c stp <| .c stp <| .c stp <| .c stp <| .c (stf 5 Tryz.underlying29 HTk.out) <| .c (sti (n := n) (c := cp) (i := 0) h1n Tryz.underlying29) <| .c (stl Tryz.underlying22 (fun wx hx => HPc.out wx (HW0.out.trans hx))) <| .c (sts Tryz.underlying25 HG.out) <| .c (sts Tryz.underlying41 HTk.out) <| .c (stK old_R Tryz.func63 (fun wx hR => HJ.out wx (HW0.out.trans hR))) <| .c (stv (v' := .bool (!(Pp 0 == D0))) hne) <| .c stp .n
   intro t wx hR hk
   simp only [fill, Ent.val, List.set_cons_zero, List.set_cons_succ, List.drop_succ_cons, List.drop_zero, List.drop_nil]
   have HOw : Hid (Old w wx) := HW0.out.trans hR
   have hs0 : gb + 1 + 1 < wx.heap.size := obj_lt (HCl.out _ hR)
   obtain ⟨K, hK⟩ : ∃ K, K = [(gb, Obj.cells (gc P Q G H a m cap) 25 (0, 0)), (gb + 1, Obj.cells (tkc ba n ca X bb n cb Y Z (some ⟨bp, op, none⟩) n cp) 41 (0, 0)), (gb + 1 + 1, Obj.cells (cc none 0 0 none 0 0) 50 (0, 0))] := ⟨_, rfl⟩
   have HK1 : Hid ((gb, Obj.cells (gc P Q G H a m cap) 25 (0, 0)) ∈ K) := by unfold Hid; rw [hK]; simp
   have HK2 : Hid ((gb + 1, Obj.cells (tkc ba n ca X bb n cb Y Z (some ⟨bp, op, none⟩) n cp) 41 (0, 0)) ∈ K) := by unfold Hid; rw [hK]; simp
   have HK3 : Hid ((gb + 1 + 1, Obj.cells (cc none 0 0 none 0 0) 50 (0, 0)) ∈ K) := by unfold Hid; rw [hK]; simp
   have HL0 : Hid (LayB wx wx.heap.size n K T R 0 [] (wx.alloc (.cells #[.int .i64 (n : Int), .slice none 0 0, .slice none 0 0] 109))) := LayB.new wx n K T R (by
    rw [hK]; intro e he; simp only [List.mem_cons, List.not_mem_nil, or_false] at he
    rcases he with rfl | rfl | rfl
    · exact HG.out _ hR
    · exact HTk.out _ hR
    · exact HCl.out _ hR)
   clear hK hR hk HJ HE HSz HPc HG HTk HCl HW0
   go_upto_region 4 with fail
   generalize wx.alloc (.cells #[.int .i64 (n : Int), .slice none 0 0, .slice none 0 0] 109) = w3 at *
   obtain ⟨s, hs⟩ : ∃ s, s = wx.heap.size := ⟨_, rfl⟩
   rw [<- hs] at HL0 hs0
   rw [<- hs]
   clear hs
   have HX : Hid (∀ wz k, LayB wx s n K T R k [] wz -> wz.cell? ⟨gb, 0, none⟩ = some (.int .u64 P) /\ wz.cell? ⟨gb, 1, none⟩ = some (.int .u64 Q) /\ wz.cell? ⟨gb, 2, none⟩ = some (.int .u64 G) /\ wz.cell? ⟨gb, 3, none⟩ = some (.int .u64 H) /\ wz.cell? ⟨gb, 4, none⟩ = some (.slice a m cap) /\ wz.cell? ⟨gb + 1, 0, none⟩ = some (.slice ba n ca) /\ wz.cell? ⟨gb + 1, 1, none⟩ = some (.int .u64 X) /\ wz.cell? ⟨gb + 1, 2, none⟩ = some (.slice bb n cb) /\ wz.cell? ⟨gb + 1, 3, none⟩ = some (.int .u64 Y) /\ wz.cell? ⟨gb + 1, 4, none⟩ = some (.int .u64 Z) /\ wz.cell? ⟨gb + 1, 5, none⟩ = some (.slice (some ⟨bp, op, none⟩) n cp)) := fun wz k hz => ⟨cell_of_row _ _ 0 _ _ (0, 0) (hz.prot HK1.out), cell_of_row _ _ 1 _ _ (0, 0) (hz.prot HK1.out), cell_of_row _ _ 2 _ _ (0, 0) (hz.prot HK1.out), cell_of_row _ _ 3 _ _ (0, 0) (hz.prot HK1.out), cell_of_row _ _ 4 _ _ (0, 0) (hz.prot HK1.out), cell_of_row _ _ 0 _ _ (0, 0) (hz.prot HK2.out), cell_of_row _ _ 1 _ _ (0, 0) (hz.prot HK2.out), cell_of_row _ _ 2 _ _ (0, 0) (hz.prot HK2.out), cell_of_row _ _ 3 _ _ (0, 0) (hz.prot HK2.out), cell_of_row _ _ 4 _ _ (0, 0) (hz.prot HK2.out), cell_of_row _ _ 5 _ _ (0, 0) (hz.prot HK2.out)⟩
   have HCc : Hid (∀ wz k, LayB wx s n K T R k [] wz -> wz.heap[gb + 1 + 1]? = some (.cells (cc none 0 0 none 0 0) 50 (0, 0))) := fun wz k hz => hz.prot HK3.out
   clear HK1 HK2 HK3
   obtain ⟨x0, x1, x2, x3, x4, x5, x6, x7, x8, x9, x10⟩ := HX.out _ _ HL0.out
   go_upto_region 5 with (go_at_call 81; refine (HCom.out wx s K _ HOw.out HL0.out).mono ?_; rintro e w4 ⟨rfl, hl⟩)
   have HL4 : Hid (LayB wx s n K T R (3 * n) [] w4) := hl
   clear hl HL0 HCom x0 x1 x2 x3 x4 x5 x6 x7 x8 x9 x10
   obtain ⟨x0, x1, x2, x3, x4, x5, x6, x7, x8, x9, x10⟩ := HX.out _ _ HL4.out
   go_upto_region 6 with (go_at_call 82; refine (HPro.out wx s K _ HOw.out HL4.out).mono ?_; rintro e w5 ⟨rfl, hl⟩)
   have HL5 : Hid (LayB wx s n K T R (4 * n + 2 * 0) [] w5) := hl
   clear hl HL4 HPro x0 x1 x2 x3 x4 x5 x6 x7 x8 x9 x10
   go_upto_region 7 with fail
   go_loopw [48] (fun iv wz => ∃ e : Nat, iv = .int .i64 (e : Int) /\ e <= 3 /\ Hid (LayB wx s n K T R (4 * n + 2 * e) [] wz)) (fun iv _ => 3 - (intOf iv).toNat)
   case atStart => exact ⟨0, rfl, Nat.zero_le _, HL5⟩
   case round =>
    obtain ⟨e, rfl, he, HL⟩ := hrel
    by_cases hlt : e < 3
    · have i1 : (e : Int) < 3 := by omega
     obtain ⟨x0, x1, x2, x3, x4, x5, x6, x7, x8, x9, x10⟩ := HX.out _ _ HL.out
     go_upto_region 10 with (go_at_call 83; refine (HSum.out wx s K _ e hlt HOw.out HL.out).mono ?_; rintro r w6 ⟨rfl, hl⟩)
     have HN : Hid (LayB wx s n K T R (4 * n + 2 * (e + 1)) [] w6) := by rw [show 4 * n + 2 * e + 2 = 4 * n + 2 * (e + 1) by omega] at hl; exact hl
     clear hl HL x0 x1 x2 x3 x4 x5 x6 x7 x8 x9 x10
     go_wp2_with fail
     go_roundw
     case rel => exact ⟨e + 1, idx_next e, by omega, HN⟩
     case measure => simp [intOf]; omega
    · have he3 : e = 3 := by omega
     subst he3
     obtain ⟨v, u, hrow, hN, hRw⟩ := HL.out.claim hn
     have hcl := HCc.out _ _ HL.out
     obtain ⟨bt, ct, rfl⟩ := own_slice8 hN
     obtain ⟨b2, c2, rfl⟩ := own_slice8 hRw.choose_spec.choose_spec.1
     have c1 : wr.cell? ⟨s, 1, none⟩ = some (.slice bt (4 * n + 2 * 3) ct) := cell_of_row _ _ 1 _ _ (0, 0) hrow
     have c2' : wr.cell? ⟨s, 2, none⟩ = some (.slice b2 (4 * n + 2 * 3) c2) := cell_of_row _ _ 2 _ _ (0, 0) hrow
     have q0 : wr.cell? ⟨gb + 1 + 1, 0, none⟩ = some (.slice none 0 0) := cell_of_row _ _ 0 _ _ (0, 0) hcl
     have q1 : wr.cell? ⟨gb + 1 + 1, 1, none⟩ = some (.slice none 0 0) := cell_of_row _ _ 1 _ _ (0, 0) hcl
     have f0 : wr.frozen? ⟨gb + 1 + 1, 0, none⟩ = false := row_frozen hcl 0
     have f1 : wr.frozen? ⟨gb + 1 + 1, 1, none⟩ = false := row_frozen hcl 1
     have HRh : Hid (wr.heap[gb + 1 + 1]? = some (.cells #[.slice none 0 0, .slice none 0 0] 50 (0, 0))) := hcl
     have HNn : Hid (Nums wr (s + 1) (.slice bt (4 * n + 2 * 3) ct) (4 * n + 6) T) := hN
     have HRn : Hid (Rws wr (s + 1) (.slice b2 (4 * n + 2 * 3) c2) (4 * n + 6) (fun _ => 7 * n + 3) R) := hRw
     have HOe : Hid (Old w wr) := HOw.out.trans HL.out.old
     clear hrow hN hRw hcl HL HSum HX HCc HL5 HOw
     go_wp2_with fail
     exact bodyPost_ret (result_pair (b := gb + 1 + 1) rfl rfl rfl (load_two HRh.out Tryz.underlying50 info_claim)) rfl (givD_yes HV.out Hgb.out (by omega) HOe.out HNn.out HRn.out)
  · have HV : Hid ((true && decide (Pp 0 = D0)) = false) := by unfold Hid; simp [hd]
   have hne : Value.bool (!(Pp 0 == D0)) = .bool true := by simp [hd]
   go_enter Tryz.func28, Tryz.ntmps28
   go_upto_region 1 with fail
   generalize ((w.alloc (.cells (gc P Q G H a m cap) 25)).alloc (.cells (tkc ba n ca X bb n cb Y Z (some ⟨bp, op, none⟩) n cp) 41)).alloc (.cells (cc none 0 0 none 0 0) 50) = W1 at *
   have HG : Hid (∀ wx, Old W1 wx -> wx.heap[w.heap.size]? = some (.cells (gc P Q G H a m cap) 25 (0, 0))) := HG0
   have HTk : Hid (∀ wx, Old W1 wx -> wx.heap[w.heap.size + 1]? = some (.cells (tkc ba n ca X bb n cb Y Z (some ⟨bp, op, none⟩) n cp) 41 (0, 0))) := HT0
   have HCl : Hid (∀ wx, Old W1 wx -> wx.heap[w.heap.size + 1 + 1]? = some (.cells (cc none 0 0 none 0 0) 50 (0, 0))) := HC0
   clear HG0 HT0 HC0
   obtain ⟨gb, hgb⟩ : ∃ gb, gb = w.heap.size := ⟨_, rfl⟩
   rw [<- hgb] at HG HTk HCl
   rw [<- hgb]
   have Hgb : Hid (w.heap.size <= gb + 1 + 1) := by unfold Hid; omega
   clear hgb
   refine wp_region_tab 24 [.k (.slice bi n ci), .k (.slice bo n co), .k (tk ba n ca X bb n cb Y Z (some ⟨bp, op, none⟩) n cp), .k (.bool true), .k (.bool false), .k (.bool false), .k (gv P Q G H a m cap), .k (.int .u64 y), .k (.slice bi n ci), .k (.slice bo n co), .k (tk ba n ca X bb n cb Y Z (some ⟨bp, op, none⟩) n cp), .k (.bool true), .k (.bool false), .k (.bool false), .k (.bool false), .k (.pointer (some ⟨gb + 1, 5, none⟩)), .k (.slice (some ⟨bp, op, none⟩) n cp), .k (.pointer (some ⟨bp, op, none⟩)), .k (.int .u64 (Pp 0)), .k (gv P Q G H a m cap), .k (tk ba n ca X bb n cb Y Z (some ⟨bp, op, none⟩) n cp), .k (.int .u64 D0), .k (.bool true), .k (.bool true)] (Old W1) (by kernel_rfl) (by kernel_rfl) rfl ((Old.refl _).drew) ?st ?_
   case st =>
    refine .c stp <| .c stp <| .c (sts Tryz.underlying41 HTk.out) <| .c (stK old_R Tryz.func79 (fun wx _ => HSz.out wx)) <| .c stp <| .c stp <| .c (sts Tryz.underlying25 HG.out) <| .c stp <| .c stp <| .c stp <| .c (sts Tryz.underlying41 HTk.out) <| .c (stK old_R Tryz.func80 (fun wx hR => HE.out wx (HW0.out.trans hR))) <| .c stp <| .c stp <| .c stp <| .c stp <| .c (stf 5 Tryz.underlying29 HTk.out) <| .c (sti (n := n) (c := cp) (i := 0) h1n Tryz.underlying29) <| .c (stl Tryz.underlying22 (fun wx hx => HPc.out wx (HW0.out.trans hx))) <| .c (sts Tryz.underlying25 HG.out) <| .c (sts Tryz.underlying41 HTk.out) <| .c (stK old_R Tryz.func63 (fun wx hR => HJ.out wx (HW0.out.trans hR))) <| .c (stv (v' := .bool (!(Pp 0 == D0))) hne) <| .c stp .n
   intro t wx hR hk
   simp only [fill, Ent.val, List.set_cons_zero, List.set_cons_succ, List.drop_succ_cons, List.drop_zero, List.drop_nil]
   have hrow := HCl.out _ hR
   have q0 : wx.cell? ⟨gb + 1 + 1, 0, none⟩ = some (.slice none 0 0) := cell_of_row _ _ 0 _ _ (0, 0) hrow
   have q1 : wx.cell? ⟨gb + 1 + 1, 1, none⟩ = some (.slice none 0 0) := cell_of_row _ _ 1 _ _ (0, 0) hrow
   have f0 : wx.frozen? ⟨gb + 1 + 1, 0, none⟩ = false := row_frozen hrow 0
   have f1 : wx.frozen? ⟨gb + 1 + 1, 1, none⟩ = false := row_frozen hrow 1
   have HRh : Hid (wx.heap[gb + 1 + 1]? = some (.cells #[.slice none 0 0, .slice none 0 0] 50 (0, 0))) := hrow
   have HOw : Hid (Old w wx) := HW0.out.trans hR
   clear hrow hR hk HCom HPro HSum HJ HE HSz HPc HG HTk HCl
   go_wp2_with fail
   exact bodyPost_ret (result_pair (b := gb + 1 + 1) rfl rfl rfl (load_two HRh.out Tryz.underlying50 info_claim)) rfl (givD_no (W' := wx) HV.out Hgb.out HOw.out)
def clmB (P Q G y : Int) (l : Nat) (C : Nat -> Nat -> Int) (no : Nat) (O : Nat -> Nat -> Int) (na : Nat) (A : Nat -> Int) (nb : Nat) (B : Nat -> Int) (np : Nat) (Pp : Nat -> Int) (Y Z : Int) : Bool := fitB l no na nb np && (eltB P Q y l C no O na A nb B np Pp && decide (Pp 0 = bigI P Q G (A 0) (B 0) Y Z))
theorem sclaim_any (P Q G H : Int) (a : Option Addr) (m cap : Nat) (y : Int) (bi : Option Addr) (l ci : Nat) (C : Nat -> Nat -> Int) (bo : Option Addr) (no co : Nat) (O : Nat -> Nat -> Int) (ba : Option Addr) (na ca : Nat) (A : Nat -> Int) (X : Int) (bb : Option Addr) (nb cb : Nat) (B : Nat -> Int) (Y Z : Int) (bp : Option Addr) (np cp : Nat) (Pp : Nat -> Int) (w : World) (hl : l <= 9223372036854775807) (h4 : Four P Q G H) (hr : Righ P Q G) (hy : U64 y) (hX : U64 X) (hY : U64 Y) (hZ : U64 Z) (hC : BoxsIn w bi l C) (hO : BoxsIn w bo no O) (hA : FacsIn w ba na A) (hB : FacsIn w bb nb B) (hP : FacsIn w bp np Pp) :
  Calls Tryz.prog 28 #[gv P Q G H a m cap, .int .u64 y, .slice bi l ci, .slice bo no co, tk ba na ca X bb nb cb Y Z bp np cp] w (GivD w (clmB P Q G y l C no O na A nb B np Pp Y Z) (4 * l + 6) (tgtT P Q G X Y Z l A B Pp (fun j w => C j (2 * w)) (fun j w => C j (2 * w + 1))) (fun _ => 7 * l + 3) (bas8 l Pp G H y (fun j w => O j (2 * w)) (fun j w => O j (2 * w + 1)))) := by
 cases hf : fitB l no na nb np with
 | true =>
  obtain ⟨⟨h1, h8⟩, e1, e2, e3, e4⟩ := fitB_iff.1 hf
  subst e1 e2 e3 e4
  unfold clmB
  rw [hf, Bool.true_and]
  exact lclm_any P Q G H a m cap y bi ci C bo co O ba ca A X bb cb B Y Z bp cp Pp _ w h1 h8 h4 hr hy hX hY hZ hC hO hA hB hP
 | false =>
  have HV : Hid (clmB P Q G y l C no O na A nb B np Pp Y Z = false) := by unfold Hid clmB; rw [hf]; rfl
  have HSz : Hid (∀ wx, Calls Tryz.prog 79 #[.slice bi l ci, .slice bo no co, tk ba na ca X bb nb cb Y Z bp np cp] wx (Ret wx (.bool false))) := fun wx => by
   have := ssizes_any bi l ci bo no co ba na ca X bb nb cb Y Z bp np cp wx hl
   rwa [hf] at this
  have HZ := lain3 w (gc P Q G H a m cap) (tkc ba na ca X bb nb cb Y Z bp np cp) (cc none 0 0 none 0 0) 25 41 50
  have HT0 := fun w' ho => (HZ.then (W' := w') ho).row 1 (by simp)
  have HC0 := fun w' ho => (HZ.then (W' := w') ho).row 2 (by simp)
  have HW0 : Hid (Old w (((w.alloc (.cells (gc P Q G H a m cap) 25)).alloc (.cells (tkc ba na ca X bb nb cb Y Z bp np cp) 41)).alloc (.cells (cc none 0 0 none 0 0) 50))) := HZ.old
  clear HZ h4 hr hy hX hY hZ hC hO hA hB hP hl hf
  generalize clmB P Q G y l C no O na A nb B np Pp Y Z = ok at *
  generalize tgtT P Q G X Y Z l A B Pp (fun j w => C j (2 * w)) (fun j w => C j (2 * w + 1)) = T at *
  generalize bas8 l Pp G H y (fun j w => O j (2 * w)) (fun j w => O j (2 * w + 1)) = R at *
  go_enter Tryz.func28, Tryz.ntmps28
  go_upto_region 1 with fail
  generalize ((w.alloc (.cells (gc P Q G H a m cap) 25)).alloc (.cells (tkc ba na ca X bb nb cb Y Z bp np cp) 41)).alloc (.cells (cc none 0 0 none 0 0) 50) = W1 at *
  have HTk : Hid (∀ wx, Old W1 wx -> wx.heap[w.heap.size + 1]? = some (.cells (tkc ba na ca X bb nb cb Y Z bp np cp) 41 (0, 0))) := HT0
  have HCl : Hid (∀ wx, Old W1 wx -> wx.heap[w.heap.size + 1 + 1]? = some (.cells (cc none 0 0 none 0 0) 50 (0, 0))) := HC0
  clear HT0 HC0
  obtain ⟨gb, hgb⟩ : ∃ gb, gb = w.heap.size := ⟨_, rfl⟩
  rw [<- hgb] at HTk HCl
  rw [<- hgb]
  have Hgb : Hid (w.heap.size <= gb + 1 + 1) := by unfold Hid; omega
  clear hgb
  refine wp_region_tab 24 [.k (.slice bi l ci), .k (.slice bo no co), .k (tk ba na ca X bb nb cb Y Z bp np cp), .k (.bool false), .k (.bool true), .k (.bool true), .k undef, .k undef, .k undef, .k undef, .k undef, .k undef, .k undef, .k (.bool true), .k (.bool true), .k undef, .k undef, .k undef, .k undef, .k undef, .k undef, .k undef, .k undef, .k (.bool true)] (Old W1) (by kernel_rfl) (by kernel_rfl) rfl ((Old.refl _).drew) ?st ?_
  case st =>
   refine .c stp <| .c stp <| .c (sts Tryz.underlying41 HTk.out) <| .c (stK old_R Tryz.func79 (fun wx _ => HSz.out wx)) <| .c stp <| .c stp <| .c stn <| .c stn <| .c stn <| .c stn <| .c stn <| .c stn <| .c stn <| .c stp <| .c stp <| .c stn <| .c stn <| .c stn <| .c stn <| .c stn <| .c stn <| .c stn <| .c stn <| .c stp .n
  intro t wx hR hk
  simp only [fill, Ent.val, List.set_cons_zero, List.set_cons_succ, List.drop_succ_cons, List.drop_zero, List.drop_nil]
  have hrow := HCl.out _ hR
  have q0 : wx.cell? ⟨gb + 1 + 1, 0, none⟩ = some (.slice none 0 0) := cell_of_row _ _ 0 _ _ (0, 0) hrow
  have q1 : wx.cell? ⟨gb + 1 + 1, 1, none⟩ = some (.slice none 0 0) := cell_of_row _ _ 1 _ _ (0, 0) hrow
  have f0 : wx.frozen? ⟨gb + 1 + 1, 0, none⟩ = false := row_frozen hrow 0
  have f1 : wx.frozen? ⟨gb + 1 + 1, 1, none⟩ = false := row_frozen hrow 1
  have HRh : Hid (wx.heap[gb + 1 + 1]? = some (.cells #[.slice none 0 0, .slice none 0 0] 50 (0, 0))) := hrow
  have HOw : Hid (Old w wx) := HW0.out.trans hR
  clear hrow hR hk HSz HTk HCl
  go_wp2_with fail
  exact bodyPost_ret (result_pair (b := gb + 1 + 1) rfl rfl rfl (load_two HRh.out Tryz.underlying50 info_claim)) rfl (givD_no (W' := wx) HV.out Hgb.out HOw.out)
end
section
open Go Go.RowKit
theorem run_enter_fn {P : Program} {a : Act} {w : World} {f : FuncId} {fn : Func} {c : Code} {x : Operand} {caps : Array Value} {os : Array Operand} {tys : Array TypeId} {dst : Option Tmp} {ty : TypeId} {pos : String} {after : Array Edge} {guard : Option (Nat × Bool)} (hf : P.funcs[f]? = some fn) (hn : (fn.name == "runtime.NumGoroutine") = false) (hb : fn.body = some c) (hx : a.eval x = .func (.func f) #[] caps) : (execOp a.eval ⟨dst, .call ⟨.value x, os, tys⟩, ty, pos, after, guard⟩).run P w = .ok (.enter f (os.map a.eval ++ caps)) w := by
 have h1 : ¬ fn.name = "runtime.NumGoroutine" := by simpa using hn
 generalize a.eval = ev at hx ⊢
 simp [execOp, resolve, hx, callFunc, hf, h1, hb, go_sem]
theorem stCf {P : Program} {ops : List Oper} {L0 : List Value} {E : List Ent} {R : World -> Prop} {e : Ent} {f : FuncId} {fn : Func} {c : Code} {x : Operand} {os : Array Operand} {tys : Array TypeId} {dst : Option Tmp} {ty : TypeId} {pos : String} {after : Array Edge} {guard : Option (Nat × Bool)} (caps : Array Value) {args : (Nat -> Value) -> Array Value} (hR : ∀ w w', R w -> Old w w' -> R w') (hf : P.funcs[f]? = some fn)
  (h : ∀ (t : Nat -> Value) (wx : World), R wx -> (∀ k, (after.any fun e => Region.binds .any e && e.on == k) = true -> okAt E k (t k) wx) -> Calls P f (args t) wx fun r w' => ∃ v, r = .returned v /\ Old wx w' /\ e.ok v w')
  (hg : guardT E ⟨dst, .call ⟨.value x, os, tys⟩, ty, pos, after, guard⟩ = some true := by rfl) (hn : (fn.name == "runtime.NumGoroutine") = false := by decide) (hb : fn.body = some c := by rfl) (hfx : ∀ t, Act.eval ⟨(fill ops E t 0 L0).toArray, []⟩ x = .func (.func f) #[] caps := by intro _; kernel_rfl) (hx : ∀ t, os.map (Act.eval ⟨(fill ops E t 0 L0).toArray, []⟩) ++ caps = args t := by intro _; kernel_rfl) : StepT P ops L0 E R ⟨dst, .call ⟨.value x, os, tys⟩, ty, pos, after, guard⟩ e :=
 stc hg hR (fun t wx => by rw [run_enter_fn hf hn hb (hfx t), hx t]) h
def one8 {α : Type} (x : α) : Nat -> α := fun _ => x
def two8f {α : Type} (x y : α) : Nat -> α | 0 => x | _ => y
theorem lists_one {w : World} {b : Nat} {ba : Option Addr} {na ca : Nat} {A : Nat -> Int} (h : w.heap[b]? = some (.cells #[.slice ba na ca] 29 (0, 0))) (h1 : na <= ca) (h2 : ca <= 9223372036854775807) (hf : FacsIn w ba na A) : ListsIn w (some ⟨b, 0, none⟩) 1 (one8 ba) (one8 na) (one8 ca) (one8 A) :=
 Or.inr ⟨b, 0, rfl, obj_lt h, fun j hj => by
  have : j = 0 := by omega
  subst this
  exact ⟨(cell_of_row _ _ 0 _ _ (0, 0) h).trans rfl, h1, h2, hf⟩⟩
theorem lists_two {w : World} {b : Nat} {ba bb : Option Addr} {na ca nb cb : Nat} {A B : Nat -> Int} (h : w.heap[b]? = some (.cells #[.slice ba na ca, .slice bb nb cb] 29 (0, 0))) (h1 : na <= ca) (h2 : ca <= 9223372036854775807) (h3 : nb <= cb) (h4 : cb <= 9223372036854775807) (hf : FacsIn w ba na A) (hg : FacsIn w bb nb B) : ListsIn w (some ⟨b, 0, none⟩) 2 (two8f ba bb) (two8f na nb) (two8f ca cb) (two8f A B) :=
 Or.inr ⟨b, 0, rfl, obj_lt h, fun j hj => by
  match j, hj with
  | 0, _ => exact ⟨(cell_of_row _ _ 0 _ _ (0, 0) h).trans rfl, h1, h2, hf⟩
  | 1, _ => exact ⟨(cell_of_row _ _ 1 _ _ (0, 0) h).trans rfl, h3, h4, hg⟩⟩
def chX (label : List Int) (Q : Int) (K : Nat -> List Int) (n : Nat) (A : Nat -> Int) : Int := numberI label (askS [120] K (one8 A) (one8 n)) (1 + 4) Q
def chYZ (c : Int) (label : List Int) (Q : Int) (K : Nat -> List Int) (n : Nat) (A B : Nat -> Int) : Int := numberI label (askS [c] K (two8f A B) (two8f n n)) (2 + 4) Q
theorem u64_number (label : List Int) (S : Nat -> List Int) (n : Nat) (Q : Int) : U64 (numberI label S n Q) := by
 unfold numberI
 split
 · have := numF_bd (fun i => (sumL (numL label S n)).getD i 0) Q 16
  exact ⟨this.1, Int.le_trans this.2 (by decide)⟩
 · exact ⟨Int.le_refl _, by decide⟩
def blkE (n : Nat) (cs : Array Value) (T : TypeId) : Ent := .u (fun v w => ∃ b, v = .slice (some ⟨b, 0, none⟩) n n /\ w.heap[b]? = some (.cells cs T (0, 0))) fun _ _ _ ⟨b, e, h⟩ ho => ⟨b, e, (ho.block _ (obj_lt h)).trans h⟩
end
section
open Go.RowKit
theorem numberI_u64 (label : List Int) (S : Nat -> List Int) (n : Nat) (q : Int) : U64 (numberI label S n q) := by
 unfold numberI
 split
 · have := numF_bd (fun i => (sumL (numL label S n)).getD i 0) q 16
  exact ⟨this.1, by omega⟩
 · exact ⟨by omega, by omega⟩
theorem ch_u64 (label : List Int) (P Q G H : Int) (nt : Nat) (T : Nat -> Int) (nb : Nat) (L : Nat -> Nat) (B : Nat -> Nat -> Int) (nk : Nat) (K : Nat -> Int) : U64 (chI label P Q G H nt T nb L B nk K) := numberI_u64 _ _ _ _
theorem rsame7_any (b1 : Option Addr) (n1 c1 : Nat) (X1 : Nat -> Int) (b2 : Option Addr) (n2 c2 : Nat) (X2 : Nat -> Int) (b3 : Option Addr) (n3 c3 : Nat) (X3 : Nat -> Int) (b4 : Option Addr) (n4 c4 : Nat) (X4 : Nat -> Int) (w : World) (m1 : n1 <= 9223372036854775807) (m2 : n2 <= 9223372036854775807) (h1 : FacsIn w b1 n1 X1) (h2 : FacsIn w b2 n2 X2) (h3 : FacsIn w b3 n3 X3) (h4 : FacsIn w b4 n4 X4) :
  Calls Tryz.prog 93 #[cv b1 n1 c1 b2 n2 c2, cv b3 n3 c3 b4 n4 c4] w fun e w' => e = .returned (.bool (sameB n1 X1 n3 X3 && sameB n2 X2 n4 X4)) /\ Old w w' := by
 have HZ := lain2 w (cc b1 n1 c1 b2 n2 c2) (cc b3 n3 c3 b4 n4 c4) 55 55
 have HT : Hid (∀ w', Old ((w.alloc (.cells (cc b1 n1 c1 b2 n2 c2) 55)).alloc (.cells (cc b3 n3 c3 b4 n4 c4) 55)) w' -> w'.cell? ⟨w.heap.size, 0, none⟩ = some (.slice b1 n1 c1) /\ w'.cell? ⟨w.heap.size, 1, none⟩ = some (.slice b2 n2 c2) /\ w'.cell? ⟨w.heap.size + 1, 0, none⟩ = some (.slice b3 n3 c3) /\ w'.cell? ⟨w.heap.size + 1, 1, none⟩ = some (.slice b4 n4 c4)) := fun w' ho => by
  have h := HZ.then ho
  exact ⟨h.cell 0 0 (by simp) rfl, h.cell 0 1 (by simp) rfl, h.cell 1 0 (by simp) rfl, h.cell 1 1 (by simp) rfl⟩
 have HA : Hid (∀ wx, Old w wx -> Calls Tryz.prog 19 #[.slice b1 n1 c1, .slice b3 n3 c3] wx fun e w' => e = .returned (.bool (sameB n1 X1 n3 X3)) /\ Old wx w') := fun wx ho => rsame_any b1 n1 c1 X1 b3 n3 c3 X3 wx m1 (h1.old ho) (h3.old ho)
 have HB : Hid (∀ wx, Old w wx -> Calls Tryz.prog 19 #[.slice b2 n2 c2, .slice b4 n4 c4] wx fun e w' => e = .returned (.bool (sameB n2 X2 n4 X4)) /\ Old wx w') := fun wx ho => rsame_any b2 n2 c2 X2 b4 n4 c4 X4 wx m2 (h2.old ho) (h4.old ho)
 clear h1 h2 h3 h4 m1 m2
 generalize sameB n1 X1 n3 X3 = s1 at *
 generalize sameB n2 X2 n4 X4 = s2 at *
 go_enter Tryz.func93, Tryz.ntmps93
 go_upto_region 1 with fail
 have HW0 : Hid (Old w ((w.alloc (.cells (cc b1 n1 c1 b2 n2 c2) 55)).alloc (.cells (cc b3 n3 c3 b4 n4 c4) 55))) := HZ.old
 generalize hW : (w.alloc (.cells (cc b1 n1 c1 b2 n2 c2) 55)).alloc (.cells (cc b3 n3 c3 b4 n4 c4) 55) = W at *
 clear hW
 obtain ⟨p0, p1, q0, q1⟩ := HT.out _ (Old.refl _)
 cases s1 with
 | false =>
  go_wp2_with (go_at_call 19; refine (HA.out _ HW0.out).mono ?_; rintro e w1 ⟨rfl, o1⟩; obtain ⟨p0, p1, q0, q1⟩ := HT.out _ o1)
  go_ret
  exact ⟨rfl, HW0.out.trans o1⟩
 | true =>
  go_wp2_with (first
   | (go_at_call 19; have hg := o1; refine (HB.out _ (HW0.out.trans o1)).mono ?_; rintro e w2 ⟨rfl, o2⟩)
   | (go_at_call 19; refine (HA.out _ HW0.out).mono ?_; rintro e w1 ⟨rfl, o1⟩; obtain ⟨p0, p1, q0, q1⟩ := HT.out _ o1))
  go_ret
  exact ⟨rfl, (HW0.out.trans o1).trans o2⟩
end
section
open Go.RowKit
theorem size_no_lens {P Q : Int} {nt : Nat} {T : Nat -> Int} {nb : Nat} {L : Nat -> Nat} {B : Nat -> Nat -> Int} (h : lensB nt nb L = false) : sizeN P Q nt T nb L B = 0 :=
 sizeN_no fun hc => by
  obtain ⟨h1, h2, h3, h4, h5, h6⟩ := hc
  have := lensB_iff.2 ⟨⟨h1, h2⟩, h3, fun j hj => (rowsB_iff.1 h6 j (h3 ▸ hj)).2.1, h4, h5⟩
  rw [h] at this
  cases this
theorem size_no_tar {P Q : Int} {nt : Nat} {T : Nat -> Int} {nb : Nat} {L : Nat -> Nat} {B : Nat -> Nat -> Int} (h : elB P Q nt T = false) : sizeN P Q nt T nb L B = 0 :=
 sizeN_no fun hc => by
  have := elB_iff.2 fun j hj => (rowsB_iff.1 hc.2.2.2.2.2 j hj).1
  rw [h] at this
  cases this
theorem size_no_row {P Q : Int} {nt : Nat} {T : Nat -> Int} {nb : Nat} {L : Nat -> Nat} {B : Nat -> Nat -> Int} {i : Nat} (hi : i < nb) (h : elB P Q (L i) (B i) = false) : sizeN P Q nt T nb L B = 0 :=
 sizeN_no fun hc => by
  have hr := rowsB_iff.1 hc.2.2.2.2.2 i (hc.2.2.1 ▸ hi)
  have : elB P Q (L i) (B i) = true := elB_iff.2 fun j hj => hr.2.2 j (hr.2.1 ▸ hj)
  rw [h] at this
  cases this
theorem size_yes {P Q : Int} {nt : Nat} {T : Nat -> Int} {nb : Nat} {L : Nat -> Nat} {B : Nat -> Nat -> Int} (hl : lensB nt nb L = true) (ht : elB P Q nt T = true) (hr : ∀ j, j < nb -> elB P Q (L j) (B j) = true) : sizeN P Q nt T nb L B = L 0 := by
 obtain ⟨⟨h1, h2⟩, h3, h4, h5, h6⟩ := lensB_iff.1 hl
 unfold sizeN
 rw [if_pos ⟨h1, h2, h3, h5, h6, rowsB_iff.2 fun j hj => ⟨elB_iff.1 ht j hj, h4 j (h3 ▸ hj), fun i hi => elB_iff.1 (hr j (h3 ▸ hj)) i (by rw [h4 j (h3 ▸ hj)]; exact hi)⟩⟩]
theorem lsize_gen (P Q G H : Int) (a : Option Addr) (n cap : Nat) (bt : Option Addr) (nt ct : Nat) (T : Nat -> Int) (bb : Option Addr) (nb cb : Nat) (BA : Nat -> Option Addr) (L C : Nat -> Nat) (B : Nat -> Nat -> Int) (w : World) (h4 : Four P Q G H) (hcl : ClaimIn w bt nt ct T bb nb cb BA L C B) :
  Calls Tryz.prog 36 #[gv P Q G H a n cap, cv bt nt ct bb nb cb] w fun e w' => e = .returned (.int .i64 (sizeN P Q nt T nb L B : Nat)) /\ Old w w' := by
 have HZ := lain2 w (gc P Q G H a n cap) (cc bt nt ct bb nb cb) 25 50
 have HT : Hid (∀ w', Old ((w.alloc (.cells (gc P Q G H a n cap) 25)).alloc (.cells (cc bt nt ct bb nb cb) 50)) w' -> w'.cell? ⟨w.heap.size, 0, none⟩ = some (.int .u64 P) /\ w'.cell? ⟨w.heap.size, 1, none⟩ = some (.int .u64 Q) /\ w'.cell? ⟨w.heap.size, 2, none⟩ = some (.int .u64 G) /\ w'.cell? ⟨w.heap.size, 3, none⟩ = some (.int .u64 H) /\ w'.cell? ⟨w.heap.size, 4, none⟩ = some (.slice a n cap) /\ w'.cell? ⟨w.heap.size + 1, 0, none⟩ = some (.slice bt nt ct) /\ w'.cell? ⟨w.heap.size + 1, 1, none⟩ = some (.slice bb nb cb)) := fun w' ho => by
  have h := HZ.then ho
  exact ⟨h.cell 0 0 (by simp) rfl, h.cell 0 1 (by simp) rfl, h.cell 0 2 (by simp) rfl, h.cell 0 3 (by simp) rfl, h.cell 0 4 (by simp) rfl, h.cell 1 0 (by simp) rfl, h.cell 1 1 (by simp) rfl⟩
 have HLn : Hid (∀ wx, Old w wx -> Calls Tryz.prog 96 #[cv bt nt ct bb nb cb] wx fun e w' => e = .returned (.bool (lensB nt nb L)) /\ Old wx w') := fun wx ho => llens_any bt nt ct T bb nb cb BA L C B wx (hcl.old ho)
 have HTa : Hid (∀ wx, Old w wx -> Calls Tryz.prog 97 #[gv P Q G H a n cap, .slice bt nt ct] wx fun e w' => e = .returned (.bool (elB P Q nt T)) /\ Old wx w') := fun wx ho => lels_any P Q G H a n cap bt nt ct T wx h4 (Nat.le_trans hcl.tc hcl.tm) (hcl.tar.old ho)
 have HB : Hid (ListsIn w bb nb BA L C B) := hcl.bas
 have HRo : Hid (∀ i wx, Old w wx -> i < nb -> Calls Tryz.prog 97 #[gv P Q G H a n cap, .slice (BA i) (L i) (C i)] wx fun e w' => e = .returned (.bool (elB P Q (L i) (B i))) /\ Old wx w') := fun i wx ho hi => by
  rcases HB.out with h0 | ⟨bx, ox, hqx, _, hrx⟩
  · omega
  exact lels_any P Q G H a n cap (BA i) (L i) (C i) (B i) wx h4 (Nat.le_trans (hrx i hi).2.1 (hrx i hi).2.2.1) ((hrx i hi).2.2.2.old ho)
 have mb : nb <= 9223372036854775807 := Nat.le_trans hcl.bc hcl.bm
 clear h4 hcl
 cases hl : lensB nt nb L with
 | false =>
  have HN : Hid (sizeN P Q nt T nb L B = 0) := size_no_lens hl
  rw [hl] at HLn
  clear hl
  go_enter Tryz.func36, Tryz.ntmps36
  go_upto_region 1 with fail
  have HW0 : Hid (Old w ((w.alloc (.cells (gc P Q G H a n cap) 25)).alloc (.cells (cc bt nt ct bb nb cb) 50))) := HZ.old
  generalize hW : (w.alloc (.cells (gc P Q G H a n cap) 25)).alloc (.cells (cc bt nt ct bb nb cb) 50) = W at *
  clear hW
  obtain ⟨d0, d1, d2, d3, d4, z0, z1⟩ := HT.out _ (Old.refl _)
  go_wp2_with (go_at_call 96; refine (HLn.out _ HW0.out).mono ?_; rintro e w1 ⟨rfl, o1⟩)
  go_ret
  exact ⟨by rw [HN.out]; rfl, HW0.out.trans o1⟩
 | true =>
  cases ht : elB P Q nt T with
  | false =>
   have HN : Hid (sizeN P Q nt T nb L B = 0) := size_no_tar ht
   rw [hl] at HLn
   rw [ht] at HTa
   clear hl ht
   go_enter Tryz.func36, Tryz.ntmps36
   go_upto_region 1 with fail
   have HW0 : Hid (Old w ((w.alloc (.cells (gc P Q G H a n cap) 25)).alloc (.cells (cc bt nt ct bb nb cb) 50))) := HZ.old
   generalize hW : (w.alloc (.cells (gc P Q G H a n cap) 25)).alloc (.cells (cc bt nt ct bb nb cb) 50) = W at *
   clear hW
   obtain ⟨d0, d1, d2, d3, d4, z0, z1⟩ := HT.out _ (Old.refl _)
   go_wp2_with (first
    | (go_at_call 96; refine (HLn.out _ HW0.out).mono ?_; rintro e w1 ⟨rfl, o1⟩; obtain ⟨d0, d1, d2, d3, d4, z0, z1⟩ := HT.out _ o1)
    | (go_at_call 97; refine (HTa.out _ (HW0.out.trans o1)).mono ?_; rintro e w2 ⟨rfl, o2⟩))
   go_ret
   exact ⟨by rw [HN.out]; rfl, (HW0.out.trans o1).trans o2⟩
  | true =>
   have HY : Hid ((∀ j, j < nb -> elB P Q (L j) (B j) = true) -> sizeN P Q nt T nb L B = L 0) := fun hr => size_yes hl ht hr
   have hpos : 0 < nb := by have := lensB_iff.1 hl; omega
   have hposI : (0 : Int) < (nb : Int) := by omega
   rw [hl] at HLn
   rw [ht] at HTa
   clear hl ht
   have hB := HB.out
   rcases hB with h0 | ⟨bx, ox, hqx, _, hrx⟩
   · omega
   have HR : Hid (∀ w' j, Old w w' -> j < nb -> w'.cell? ⟨bx, ox + j, none⟩ = some (.slice (BA j) (L j) (C j))) := fun w' j ho hj => ho.cellOf (hrx j hj).1
   clear hrx
   subst hqx
   go_enter Tryz.func36, Tryz.ntmps36
   go_upto_region 1 with fail
   have HW0 : Hid (Old w ((w.alloc (.cells (gc P Q G H a n cap) 25)).alloc (.cells (cc bt nt ct (some ⟨bx, ox, none⟩) nb cb) 50))) := HZ.old
   generalize hW : (w.alloc (.cells (gc P Q G H a n cap) 25)).alloc (.cells (cc bt nt ct (some ⟨bx, ox, none⟩) nb cb) 50) = W at *
   clear hW
   obtain ⟨d0, d1, d2, d3, d4, z0, z1⟩ := HT.out _ (Old.refl _)
   go_upto_region 4 with (first
    | (go_at_call 96; refine (HLn.out _ HW0.out).mono ?_; rintro e w1 ⟨rfl, o1⟩; obtain ⟨d0, d1, d2, d3, d4, z0, z1⟩ := HT.out _ o1)
    | (go_at_call 97; refine (HTa.out _ (HW0.out.trans o1)).mono ?_; rintro e w2 ⟨rfl, o2⟩; obtain ⟨d0, d1, d2, d3, d4, z0, z1⟩ := HT.out _ (o1.trans o2)))
   have HWx : Hid (Old W w2) := o1.trans o2
   clear o1 o2
   go_loopw [20] (fun iv wx => ∃ i : Nat, iv = .int .i64 (i : Int) /\ i <= nb /\ Hid (∀ j, j < i -> elB P Q (L j) (B j) = true) /\ Hid (Old W wx)) (fun iv _ => nb - (intOf iv).toNat)
   case atStart => exact ⟨0, rfl, Nat.zero_le _, fun j hj => by omega, HWx⟩
   case round =>
    clear d0 d1 d2 d3 d4 z0 z1
    obtain ⟨i, rfl, hi1, HJ, HW⟩ := hrel
    obtain ⟨d0, d1, d2, d3, d4, z0, z1⟩ := HT.out _ HW.out
    by_cases hlt : i < nb
    · have cx := HR.out _ i (HW0.out.trans HW.out) hlt
     have HC : Hid (∀ wx, Old W wx -> Calls Tryz.prog 97 #[gv P Q G H a n cap, .slice (BA i) (L i) (C i)] wx fun e w' => e = .returned (.bool (elB P Q (L i) (B i))) /\ Old wx w') := fun wx ho => HRo.out i wx (HW0.out.trans ho) hlt
     cases hin : elB P Q (L i) (B i) with
     | true =>
      have HM : Hid (elB P Q (L i) (B i) = true) := hin
      rw [hin] at HC
      clear hin
      go_wp2_with (go_at_call 97; refine (HC.out _ HW.out).mono ?_; rintro e w3 ⟨rfl, o3⟩)
      go_roundw
      case rel => exact ⟨i + 1, idx_next i, by omega, upto_succ HJ.out HM.out, HW.out.trans o3⟩
      case measure => simp [intOf]; omega
     | false =>
      have HN : Hid (sizeN P Q nt T nb L B = 0) := size_no_row hlt hin
      rw [hin] at HC
      clear hin
      go_wp2_with (go_at_call 97; refine (HC.out _ HW.out).mono ?_; rintro e w3 ⟨rfl, o3⟩)
      go_ret
      exact ⟨by rw [HN.out]; rfl, (HW0.out.trans HW.out).trans o3⟩
    · have he : nb = i := by omega
     subst he
     have HN : Hid (sizeN P Q nt T nb L B = L 0) := HY.out HJ.out
     have c0 := HR.out _ 0 (HW0.out.trans HW.out) hpos
     rw [Nat.add_zero] at c0
     go_wp2_with fail
     go_ret
     exact ⟨by rw [HN.out]; rfl, HW0.out.trans HW.out⟩
end
section
open Go.RowKit
theorem lpow_any (P Q G H : Int) (a : Option Addr) (n cap : Nat) (b1 : Option Addr) (n1 c1 : Nat) (B1 : Nat -> Int) (b2 : Option Addr) (n2 c2 : Nat) (X : Nat -> Int) (w : World) (h4 : Four P Q G H) (hr : Righ P Q G) (m1 : n1 <= 80) (hn : n1 = n2) (h1 : FacsIn w b1 n1 B1) (h2 : FacsIn w b2 n2 X) :
  Calls Tryz.prog 100 #[gv P Q G H a n cap, .slice b1 n1 c1, .slice b2 n2 c2] w fun e w' => e = .returned (.int .u64 (imI P Q B1 X n1)) /\ Old w w' := by
 subst hn
 have HX : Hid (FacsIn w b1 n1 B1) := h1
 have HY : Hid (FacsIn w b2 n1 X) := h2
 have HZ := lain1 w (gc P Q G H a n cap) 25
 obtain ⟨F, hF⟩ : ∃ F : Nat -> Int, F = fun k => expI P Q (B1 k) (X k) := ⟨_, rfl⟩
 have H1 : Hid (∀ i wx, i < n1 -> Calls Tryz.prog 65 #[gv P Q G H a n cap, .int .u64 (B1 i), .int .u64 (X i)] wx fun r w' => r = .returned (.int .u64 (F i)) /\ Old wx w') := fun i wx hi => (gexp_any P Q G H (B1 i) (X i) a n cap wx h4 hr (h1.u64 i hi).1 (h1.u64 i hi).2 (h2.u64 i hi).1 (h2.u64 i hi).2).mono fun r w' ⟨h, k⟩ => ⟨by rw [h, hF], k⟩
 have H2 : Hid (∀ b wx, FacsIn wx b n1 F -> Calls Tryz.prog 64 #[gv P Q G H a n cap, .slice b n1 n1] wx fun r w' => r = .returned (.int .u64 (imI P Q B1 X n1)) /\ Old wx w') := fun b wx hf => (gprod_any P Q G H a n cap b n1 n1 F wx h4 hr (Nat.le_refl _) (by omega) hf).mono fun r w' ⟨h, k⟩ => ⟨by rw [h, hF]; rfl, k⟩
 have HU : Hid (∀ k, U64 (F k)) := fun k => by rw [hF]; exact u64_exp _ _ _ _
 generalize imI P Q B1 X n1 = im at *
 clear hF h1 h2 h4 hr
 have hmk := make_run n1 m1
 go_enter Tryz.func100, Tryz.ntmps100
 go_upto_region 1 with fail
 generalize hW : w.alloc (.cells (gc P Q G H a n cap) 25) = W at *
 clear hW
 go_upto_region 2 with fail
 have HFu := full_zero W n1 F
 have HWx : Hid (Old W (W.alloc (.cells (madeCells #[Value.int .u64 0] n1) 22))) := (Old.refl W).alloc _
 have hlt0 : W.heap.size < (W.alloc (.cells (madeCells #[Value.int .u64 0] n1) 22)).heap.size := HFu.lt
 generalize W.alloc (.cells (madeCells #[Value.int .u64 0] n1) 22) = W1 at *
 go_upto_region 3 with fail
 go_loopw [15] (fun iv wx => ∃ i : Nat, iv = .int .i64 (i : Int) /\ i <= n1 /\ Hid (Full wx W.heap.size n1 (upTo i F)) /\ Hid (Old W wx)) (fun iv _ => n1 - (intOf iv).toNat)
 case atStart => exact ⟨0, rfl, Nat.zero_le _, HFu, HWx⟩
 case round =>
  obtain ⟨i, rfl, hi1, HN, HW⟩ := hrel
  by_cases hlt : i < n1
  · rcases HX.out with h0 | ⟨bx, ox, hqx, _, hrx⟩
   · omega
   rcases HY.out with h0 | ⟨by_, oy, hqy, _, hry⟩
   · omega
   have HT : Hid (∀ w', Old W w' -> w'.cell? ⟨w.heap.size, 0, none⟩ = some (.int .u64 P) /\ w'.cell? ⟨w.heap.size, 1, none⟩ = some (.int .u64 Q) /\ w'.cell? ⟨w.heap.size, 2, none⟩ = some (.int .u64 G) /\ w'.cell? ⟨w.heap.size, 3, none⟩ = some (.int .u64 H) /\ w'.cell? ⟨w.heap.size, 4, none⟩ = some (.slice a n cap) /\ w'.cell? ⟨by_, oy + i, none⟩ = some (.int .u64 (X i))) := fun w' ho => ⟨(HZ.then ho).cell 0 0 (by simp) rfl, (HZ.then ho).cell 0 1 (by simp) rfl, (HZ.then ho).cell 0 2 (by simp) rfl, (HZ.then ho).cell 0 3 (by simp) rfl, (HZ.then ho).cell 0 4 (by simp) rfl, (HZ.old.trans ho).cellOf (hry i hlt).1⟩
   have cx := (HZ.old.trans HW.out).cellOf (hrx i hlt).1
   clear hrx hry
   subst hqx hqy
   obtain ⟨d0, d1, d2, d3, d4, cy⟩ := HT.out _ HW.out
   have HM : Hid (∀ wx, Calls Tryz.prog 65 #[gv P Q G H a n cap, .int .u64 (B1 i), .int .u64 (X i)] wx fun r w' => r = .returned (.int .u64 (F i)) /\ Old wx w') := fun wx => H1.out i wx hlt
   go_upto_region 5 with fail
   go_region_held3 (fun w' => w'.cell? ⟨w.heap.size, 0, none⟩ = some (.int .u64 P) /\ w'.cell? ⟨w.heap.size, 1, none⟩ = some (.int .u64 Q) /\ w'.cell? ⟨w.heap.size, 2, none⟩ = some (.int .u64 G) /\ w'.cell? ⟨w.heap.size, 3, none⟩ = some (.int .u64 H) /\ w'.cell? ⟨w.heap.size, 4, none⟩ = some (.slice a n cap) /\ w'.cell? ⟨by_, oy + i, none⟩ = some (.int .u64 (X i))) (first | exact HT.out _ (h4.setCell (Nat.le_refl _) _) | exact HT.out _ h4 | exact HT.out _ HW.out.drew) (first
    | (go_at_call 65; refine (HM.out _).mono ?_; rintro e w4 ⟨rfl, o4⟩; have h4 : Old W w4 := HW.out.drew.trans o4; have hful := HN.out.old ((Old.refl wr).drew.trans o4); have q0 := hful.cell i hlt; have f0 := hful.free i))
   have HG : Hid (Full (w4.setCell ⟨W.heap.size, i, none⟩ (.int .u64 (F i))) W.heap.size n1 (upTo (i + 1) F)) := hful.next
   have HG2 : Hid (Old W (w4.setCell ⟨W.heap.size, i, none⟩ (.int .u64 (F i)))) := h4.setCell (Nat.le_refl _) _
   go_wp2_with fail
   go_roundw
   case rel => exact ⟨i + 1, idx_next i, by omega, HG, HG2⟩
   case measure => simp [intOf]; omega
  · have he : n1 = i := by omega
   subst he
   have d0 := (HZ.then HW.out).cell 0 0 (by simp) rfl
   have d1 := (HZ.then HW.out).cell 0 1 (by simp) rfl
   have d2 := (HZ.then HW.out).cell 0 2 (by simp) rfl
   have d3 := (HZ.then HW.out).cell 0 3 (by simp) rfl
   have d4 := (HZ.then HW.out).cell 0 4 (by simp) rfl
   simp only [Nat.add_zero] at d0 d1 d2 d3 d4
   have HP : Hid (Calls Tryz.prog 64 #[gv P Q G H a n cap, .slice (some ⟨W.heap.size, 0, none⟩) n1 n1] wr fun r w' => r = .returned (.int .u64 im) /\ Old wr w') := H2.out _ _ (HN.out.done.facs fun k _ => HU.out k)
   go_wp2_with (go_at_call 64; refine HP.out.mono ?_; rintro e w5 ⟨rfl, o5⟩)
   go_ret
   exact ⟨rfl, (HZ.old.trans HW.out).trans o5⟩
end
section
open Go.RowKit
def GivesF (w : World) (ok : Bool) (k : Nat) (F : Nat -> Int) (r : Ending) (w' : World) : Prop :=
 Old w w' /\ ((ok = false /\ r = .returned (.tuple #[.slice none 0 0, .bool false])) ∨ (ok = true /\ ∃ b, w.heap.size <= b /\ r = .returned (.tuple #[.slice (some ⟨b, 0, none⟩) k k, .bool true]) /\ Full w' b k F))
theorem GivesF.gives {w w' : World} {ok : Bool} {k : Nat} {F : Nat -> Int} {r : Ending} (h : GivesF w ok k F r w') (hk : k <= 9223372036854775807) : Gives w ok k F r w' := by
 obtain ⟨ho, ⟨h1, rfl⟩ | ⟨h1, b, hb, rfl, hF⟩⟩ := h
 · exact gives_no h1 ho
 · exact gives_yes h1 (hF.nums hb hk) ho
set_option linter.unusedSimpArgs false in
theorem limage_gen (P Q G H : Int) (a : Option Addr) (n cap : Nat) (bt : Option Addr) (nt ct : Nat) (T : Nat -> Int) (bb : Option Addr) (nb cb : Nat) (BA : Nat -> Option Addr) (L C : Nat -> Nat) (B : Nat -> Nat -> Int) (bz : Option Addr) (nz cz : Nat) (X : Nat -> Int) (w : World) (h4 : Four P Q G H) (hr : Righ P Q G) (hC : ClaimIn w bt nt ct T bb nb cb BA L C B) (hX : FacsIn w bz nz X) :
  Calls Tryz.prog 42 #[gv P Q G H a n cap, cv bt nt ct bb nb cb, .slice bz nz cz] w (GivesF w (fitsB (sizeN P Q nt T nb L B) nz) nt (fun j => imI P Q (B j) X (sizeN P Q nt T nb L B))) := by
 have HZ := lain2 w (gc P Q G H a n cap) (cc bt nt ct bb nb cb) 25 50
 have HT : Hid (∀ w', Old ((w.alloc (.cells (gc P Q G H a n cap) 25)).alloc (.cells (cc bt nt ct bb nb cb) 50)) w' -> w'.cell? ⟨w.heap.size, 0, none⟩ = some (.int .u64 P) /\ w'.cell? ⟨w.heap.size, 1, none⟩ = some (.int .u64 Q) /\ w'.cell? ⟨w.heap.size, 2, none⟩ = some (.int .u64 G) /\ w'.cell? ⟨w.heap.size, 3, none⟩ = some (.int .u64 H) /\ w'.cell? ⟨w.heap.size, 4, none⟩ = some (.slice a n cap) /\ w'.cell? ⟨w.heap.size + 1, 0, none⟩ = some (.slice bt nt ct) /\ w'.cell? ⟨w.heap.size + 1, 1, none⟩ = some (.slice bb nb cb)) := fun w' ho => by
  have h := HZ.then ho
  exact ⟨h.cell 0 0 (by simp) rfl, h.cell 0 1 (by simp) rfl, h.cell 0 2 (by simp) rfl, h.cell 0 3 (by simp) rfl, h.cell 0 4 (by simp) rfl, h.cell 1 0 (by simp) rfl, h.cell 1 1 (by simp) rfl⟩
 have HS : Hid (∀ wx, Old w wx -> Calls Tryz.prog 36 #[gv P Q G H a n cap, cv bt nt ct bb nb cb] wx fun e w' => e = .returned (.int .i64 (sizeN P Q nt T nb L B : Nat)) /\ Old wx w') := fun wx ho => lsize_gen P Q G H a n cap bt nt ct T bb nb cb BA L C B wx h4 (hC.old ho)
 have hcl := sizeN_claim (P := P) (Q := Q) (nt := nt) (T := T) (nb := nb) (L := L) (B := B)
 have HB : Hid (ListsIn w bb nb BA L C B) := hC.bas
 generalize sizeN P Q nt T nb L B = sz at *
 obtain ⟨F, hF⟩ : ∃ F : Nat -> Int, F = fun j => imI P Q (B j) X sz := ⟨_, rfl⟩
 rw [<- hF]
 have HPw : Hid (∀ i wx, Old w wx -> i < nb -> L i = nz -> nz = sz -> nz <= 80 -> Calls Tryz.prog 100 #[gv P Q G H a n cap, .slice (BA i) (L i) (C i), .slice bz nz cz] wx fun r w' => r = .returned (.int .u64 (F i)) /\ Old wx w') := fun i wx ho hi hL hz hm =>
  (lpow_any P Q G H a n cap (BA i) (L i) (C i) (B i) bz nz cz X wx h4 hr (by omega) hL ((HB.out.facs hi).old ho) (hX.old ho)).mono fun r w' ⟨h, k⟩ => ⟨by rw [h, hF, hL, hz], k⟩
 clear hF h4 hr hC hX
 by_cases hs0 : sz = 0
 · have HN : Hid (fitsB sz nz = false) := no_of fun h => (fitsB_iff.1 h).1 hs0
  have k1 : (sz : Int) = 0 := by omega
  clear hcl hs0
  go_enter Tryz.func42, Tryz.ntmps42
  go_upto_region 1 with fail
  have HW0 : Hid (Old w ((w.alloc (.cells (gc P Q G H a n cap) 25)).alloc (.cells (cc bt nt ct bb nb cb) 50))) := HZ.old
  generalize hW : (w.alloc (.cells (gc P Q G H a n cap) 25)).alloc (.cells (cc bt nt ct bb nb cb) 50) = W at *
  clear hW
  obtain ⟨d0, d1, d2, d3, d4, z0, z1⟩ := HT.out _ (Old.refl _)
  go_wp2_with (go_at_call 36; refine (HS.out _ HW0.out).mono ?_; rintro e w2 ⟨rfl, h2⟩)
  go_ret2
  exact ⟨HW0.out.trans h2, Or.inl ⟨HN.out, rfl⟩⟩
 by_cases hnw : nz = sz
 · have hcl := hcl hs0
  subst hnw
  have HN : Hid (fitsB nz nz = true) := fitsB_iff.2 ⟨hs0, rfl⟩
  have HP : Hid (∀ i wx, Old w wx -> i < nb -> Calls Tryz.prog 100 #[gv P Q G H a n cap, .slice (BA i) (L i) (C i), .slice bz nz cz] wx fun r w' => r = .returned (.int .u64 (F i)) /\ Old wx w') := fun i wx ho hi => HPw.out i wx ho hi (hcl.len i (hcl.nb ▸ hi)) rfl (by have := hcl.n64; omega)
  have HNB : Hid (nb = nt) := hcl.nb
  have m1 : nb <= 80 := by have := hcl.nb; have := hcl.t64; omega
  have hpos : 0 < nb := by have := hcl.nb; have := hcl.t1; omega
  have k1 : ¬ (nz : Int) = 0 := by omega
  have k3 : ((nz : Int) == 0) = false := by simp; omega
  clear hcl HPw hs0
  rcases HB.out with h0 | ⟨bx, ox, hqx, _, hrx⟩
  · omega
  have HR : Hid (∀ w' j, Old w w' -> j < nb -> w'.cell? ⟨bx, ox + j, none⟩ = some (.slice (BA j) (L j) (C j))) := fun w' j ho hj => ho.cellOf (hrx j hj).1
  clear hrx
  subst hqx
  have hmk := make_run nb m1
  go_enter Tryz.func42, Tryz.ntmps42
  go_upto_region 1 with fail
  have HW0 : Hid (Old w ((w.alloc (.cells (gc P Q G H a n cap) 25)).alloc (.cells (cc bt nt ct (some ⟨bx, ox, none⟩) nb cb) 50))) := HZ.old
  generalize hW : (w.alloc (.cells (gc P Q G H a n cap) 25)).alloc (.cells (cc bt nt ct (some ⟨bx, ox, none⟩) nb cb) 50) = W at *
  clear hW
  obtain ⟨d0, d1, d2, d3, d4, z0, z1⟩ := HT.out _ (Old.refl _)
  go_upto_region 4 with (go_at_call 36; refine (HS.out _ HW0.out).mono ?_; rintro e w2 ⟨rfl, h2⟩; obtain ⟨d0, d1, d2, d3, d4, z0, z1⟩ := HT.out _ h2)
  go_upto_region 5 with fail
  have HFu := full_zero w2 nb F
  have HWx : Hid (Old W (w2.alloc (.cells (madeCells #[Value.int .u64 0] nb) 22))) := h2.alloc _
  have hlt0 : w2.heap.size < (w2.alloc (.cells (madeCells #[Value.int .u64 0] nb) 22)).heap.size := HFu.lt
  generalize w2.alloc (.cells (madeCells #[Value.int .u64 0] nb) 22) = W1 at *
  clear d0 d1 d2 d3 d4 z0 z1
  obtain ⟨d0, d1, d2, d3, d4, z0, z1⟩ := HT.out _ HWx.out
  have hsz := h2.size
  go_upto_region 6 with fail
  clear d0 d1 d2 d3 d4 z0 z1
  go_loopw [30] (fun iv wx => ∃ i : Nat, iv = .int .i64 (i : Int) /\ i <= nb /\ Hid (Full wx w2.heap.size nb (upTo i F)) /\ Hid (Old W wx)) (fun iv _ => nb - (intOf iv).toNat)
  case atStart => exact ⟨0, rfl, Nat.zero_le _, HFu, HWx⟩
  case round =>
   obtain ⟨i, rfl, hi1, HNu, HW⟩ := hrel
   by_cases hlt : i < nb
   · obtain ⟨d0, d1, d2, d3, d4, z0, z1⟩ := HT.out _ HW.out
    have cx := HR.out _ i (HW0.out.trans HW.out) hlt
    have HC : Hid (Calls Tryz.prog 100 #[gv P Q G H a n cap, .slice (BA i) (L i) (C i), .slice bz nz cz] wr fun r w' => r = .returned (.int .u64 (F i)) /\ Old wr w') := HP.out i wr (HW0.out.trans HW.out) hlt
    go_wp2_with (go_at_call 100; refine HC.out.mono ?_; rintro e w4 ⟨rfl, o4⟩; have h4 : Old W w4 := HW.out.trans o4; have hful := HNu.out.old o4; have q0 := hful.cell i hlt; have f0 := hful.free i)
    have HG : Hid (Full (w4.setCell ⟨w2.heap.size, i, none⟩ (.int .u64 (F i))) w2.heap.size nb (upTo (i + 1) F)) := hful.next
    have HG2 : Hid (Old W (w4.setCell ⟨w2.heap.size, i, none⟩ (.int .u64 (F i)))) := h4.setCell hsz _
    go_roundw
    case rel => exact ⟨i + 1, idx_next i, by omega, HG, HG2⟩
    case measure => simp [intOf]; omega
   · have he : nb = i := by omega
    subst he
    have HD : Hid (Full wr w2.heap.size nb F) := HNu.out.done
    go_wp2_with fail
    go_ret2
    have hnb := HNB.out
    refine ⟨HW0.out.trans HW.out, Or.inr ⟨HN.out, w2.heap.size, Nat.le_trans HW0.out.size hsz, ?_, ?_⟩⟩
    · rw [<- hnb]; rfl
    · rw [<- hnb]; exact HD.out
 · have HN : Hid (fitsB sz nz = false) := no_of fun h => hnw (fitsB_iff.1 h).2
  have k1 : ¬ (sz : Int) = 0 := by omega
  have k2 : ¬ (nz : Int) = (sz : Int) := by omega
  have k3 : ((sz : Int) == 0) = false := by simp; omega
  have k4 : ((nz : Int) != (sz : Int)) = true := by simp; omega
  have k5 : ((nz : Int) == (sz : Int)) = false := by simp; omega
  clear hcl hs0
  go_enter Tryz.func42, Tryz.ntmps42
  go_upto_region 1 with fail
  have HW0 : Hid (Old w ((w.alloc (.cells (gc P Q G H a n cap) 25)).alloc (.cells (cc bt nt ct bb nb cb) 50))) := HZ.old
  generalize hW : (w.alloc (.cells (gc P Q G H a n cap) 25)).alloc (.cells (cc bt nt ct bb nb cb) 50) = W at *
  clear hW
  obtain ⟨d0, d1, d2, d3, d4, z0, z1⟩ := HT.out _ (Old.refl _)
  go_wp2_with (go_at_call 36; refine (HS.out _ HW0.out).mono ?_; rintro e w2 ⟨rfl, h2⟩)
  go_ret2
  exact ⟨HW0.out.trans h2, Or.inl ⟨HN.out, rfl⟩⟩
end
section
open Go.RowKit
def fromTo (i : Nat) (F O : Nat -> Int) : Nat -> Int := fun k => if k < i then O k else F k
end
end Go.Proofs.YtlnmjbbpenhdbaaGreat
