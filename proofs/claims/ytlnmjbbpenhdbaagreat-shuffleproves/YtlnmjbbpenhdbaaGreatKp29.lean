/-
  What the proof needs, part 29.
-/
import Derived.Test.YtlnmjbbpenhdbaaGreatKp27
import Derived.Test.YtlnmjbbpenhdbaaGreatKp12
import Derived.Test.YtlnmjbbpenhdbaaGreatKp26
import Derived.Test.YtlnmjbbpenhdbaaGreatKp05
namespace Go.Proofs.YtlnmjbbpenhdbaaGreat
set_option linter.unusedSimpArgs false
set_option linter.unusedVariables false
set_option maxRecDepth 100000
set_option maxHeartbeats 32000000
section
open Go Go.RowKit
theorem Nums.rows {w : World} {base k : Nat} {v : Value} {F : Nat -> Int} (h : Nums w base v k F) : RowsN w base 22 1 v k (fun q => .int .u64 (F q)) := by
 unfold RowsN
 rw [Nat.mul_one]
 exact h
theorem sub_one8 (p i : Nat) (h : p = i + 1) (hp : p <= 1000) : Value.int .i64 (IntKind.i64.wrap ((p : Int) - 1)) = .int .i64 (i : Int) := by
 subst h
 exact int_pred i (by omega)
theorem rthird8_any (P Q G H : Int) (a : Option Addr) (n cap : Nat) (bo : Option Addr) (no co : Nat) (O : Nat -> Int) (ba : Option Addr) (ca : Nat) (A : Nat -> Int) (X : Int) (bb : Option Addr) (cb : Nat) (B : Nat -> Int) (Y Z : Int) (bp : Option Addr) (np cp : Nat) (bρ : Option Addr) (nρ cρ : Nat) (bR : Option Addr) (nR cR : Nat) (bS : Option Addr) (nS cS : Nat) (bT : Option Addr) (cT : Nat) (T : Nat -> Int) (bD : Option Addr) (nD cD : Nat) (w : World) (h4 : Four P Q G H) (hX : U64 X) (hY : U64 Y) (hZ : U64 Z) (ho : ordR no O = true) (hO : IntsIn w bo no O) (hA : FacsIn w ba no A) (hB : FacsIn w bb no B) (hT : FacsIn w bT no T) :
  Calls Tryz.prog 25 #[gv P Q G H a n cap, .slice bo no co, tk ba no ca X bb no cb Y Z bp np cp, dv bρ nρ cρ bR nR cR bS nS cS bT no cT bD nD cD] w (GivL w no (thiI P Q G H X Y Z A B O T)) := by
 obtain ⟨i0, hi0, hz0, hz1, hz2⟩ := info_parts u64info
 have h8 : no <= 8 := (ordR_iff.1 ho).1.2
 have h1 : 1 <= no := (ordR_iff.1 ho).1.1
 have hP : OrdP no O := ordB_iff.1 (by have := ho; unfold ordR at this; exact (Bool.and_eq_true_iff.1 this).2)
 have HOr : Hid (∀ wx, Old w wx -> Calls Tryz.prog 56 #[.slice bo no co] wx (Ret wx (.bool true))) := fun wx hx => by have h := rorder8_any bo no co O wx (by omega) (hO.old hx); rw [ho] at h; exact h
 have HBd : Hid (∀ i, i < no -> 0 <= O i /\ O i < 1000) := fun i hi => by have := hP.2.1 i hi; omega
 have HIT : Hid (FacsIn w bT no T) := hT
 have HTu : Hid (∀ i, i < no -> U64 (T i)) := hT.u64
 obtain ⟨F, hF⟩ : ∃ F : Nat -> Int, F = thiI P Q G H X Y Z A B O T := ⟨_, rfl⟩
 have HF0 : Hid (F 0 = bigI P Q G (A 0) (B 0) Y Z) := by unfold Hid; rw [hF]; rfl
 have HFs : Hid (∀ i, F (i + 1) = mulI (expI P Q (F i) (facI Q X Y Z (O (i + 1) + 1))) (expI P Q H (T (i + 1))) P) := fun i => by rw [hF]; rfl
 have HFu : Hid (∀ i, U64 (F i)) := fun i => by rw [hF]; exact thi_u64 _ _ _ _ _ _ _ _ _ _ _ i
 rw [<- hF]
 have HBg : Hid (∀ wx, Old w wx -> Calls Tryz.prog 67 #[gv P Q G H a n cap, tk ba no ca X bb no cb Y Z bp np cp, .int .i64 0] wx (Ret wx (.int .u64 (F 0)))) := fun wx hx => by rw [HF0.out]; exact rbig8_any P Q G H a n cap ba no ca X bb no cb Y Z bp np cp A B 0 wx h4 h1 h1 hY hZ (hA.old hx) (hB.old hx)
 have HDd : Hid (∀ wx i, Old w wx -> i < no -> Calls Tryz.prog 69 #[gv P Q G H a n cap, .slice bo no co, tk ba no ca X bb no cb Y Z bp np cp, .int .i64 (i : Int)] wx (Ret wx (.int .u64 (facI Q X Y Z (O i + 1))))) := fun wx i hx hi => rd8_any P Q G H a n cap bo no co O ba no ca X bb no cb Y Z bp np cp i wx hi hX hY hZ (hO.old hx) (HBd.out i hi)
 clear hF ho hO hA hB hT hP HF0
 have HZ := lain3 w (gc P Q G H a n cap) (tkc ba no ca X bb no cb Y Z bp np cp) (dvc bρ nρ cρ bR nR cR bS nS cS bT no cT bD nD cD) 25 41 31
 have HG0 := fun w' ho => (HZ.then (W' := w') ho).row 0 (by simp)
 have HT0 := fun w' ho => (HZ.then (W' := w') ho).row 1 (by simp)
 have HD0 := fun w' ho => (HZ.then (W' := w') ho).row 2 (by simp)
 have HW0 : Hid (Old w (((w.alloc (.cells (gc P Q G H a n cap) 25)).alloc (.cells (tkc ba no ca X bb no cb Y Z bp np cp) 41)).alloc (.cells (dvc bρ nρ cρ bR nR cR bS nS cS bT no cT bD nD cD) 31))) := HZ.old
 clear HZ
 go_enter Tryz.func25, Tryz.ntmps25
 go_upto_region 1 with fail
 generalize (((w.alloc (.cells (gc P Q G H a n cap) 25)).alloc (.cells (tkc ba no ca X bb no cb Y Z bp np cp) 41)).alloc (.cells (dvc bρ nρ cρ bR nR cR bS nS cS bT no cT bD nD cD) 31)) = W at *
 have HG : Hid (∀ wx, Old W wx -> wx.heap[w.heap.size]? = some (.cells (gc P Q G H a n cap) 25 (0, 0))) := HG0
 have HTk : Hid (∀ wx, Old W wx -> wx.heap[w.heap.size + 1]? = some (.cells (tkc ba no ca X bb no cb Y Z bp np cp) 41 (0, 0))) := HT0
 have HDr : Hid (∀ wx, Old W wx -> wx.heap[w.heap.size + 1 + 1]? = some (.cells (dvc bρ nρ cρ bR nR cR bS nS cS bT no cT bD nD cD) 31 (0, 0))) := HD0
 clear HG0 HT0 HD0
 obtain ⟨gb, hgb⟩ : ∃ gb, gb = w.heap.size := ⟨_, rfl⟩
 rw [<- hgb] at HG HTk HDr
 rw [<- hgb]
 clear hgb
 have HTc : Hid (∀ wx, Old W wx -> wx.cell? ⟨gb + 1, 0, none⟩ = some (.slice ba no ca) /\ wx.cell? ⟨gb + 1, 1, none⟩ = some (.int .u64 X) /\ wx.cell? ⟨gb + 1, 2, none⟩ = some (.slice bb no cb) /\ wx.cell? ⟨gb + 1, 3, none⟩ = some (.int .u64 Y) /\ wx.cell? ⟨gb + 1, 4, none⟩ = some (.int .u64 Z) /\ wx.cell? ⟨gb + 1, 5, none⟩ = some (.slice bp np cp)) := fun wx hx => ⟨cell_of_row _ _ 0 _ _ (0, 0) (HTk.out _ hx), cell_of_row _ _ 1 _ _ (0, 0) (HTk.out _ hx), cell_of_row _ _ 2 _ _ (0, 0) (HTk.out _ hx), cell_of_row _ _ 3 _ _ (0, 0) (HTk.out _ hx), cell_of_row _ _ 4 _ _ (0, 0) (HTk.out _ hx), cell_of_row _ _ 5 _ _ (0, 0) (HTk.out _ hx)⟩
 have HGc : Hid (∀ wx, Old W wx -> wx.cell? ⟨gb, 0, none⟩ = some (.int .u64 P) /\ wx.cell? ⟨gb, 1, none⟩ = some (.int .u64 Q) /\ wx.cell? ⟨gb, 2, none⟩ = some (.int .u64 G) /\ wx.cell? ⟨gb, 3, none⟩ = some (.int .u64 H) /\ wx.cell? ⟨gb, 4, none⟩ = some (.slice a n cap)) := fun wx hx => ⟨cell_of_row _ _ 0 _ _ (0, 0) (HG.out _ hx), cell_of_row _ _ 1 _ _ (0, 0) (HG.out _ hx), cell_of_row _ _ 2 _ _ (0, 0) (HG.out _ hx), cell_of_row _ _ 3 _ _ (0, 0) (HG.out _ hx), cell_of_row _ _ 4 _ _ (0, 0) (HG.out _ hx)⟩
 have HDc : Hid (∀ wx, Old W wx -> wx.cell? ⟨gb + 1 + 1, 3, none⟩ = some (.slice bT no cT)) := fun wx hx => cell_of_row _ _ 3 _ _ (0, 0) (HDr.out _ hx)
 go_upto_region 4 with (go_at_call 56; refine (HOr.out _ HW0.out).mono ?_; rintro e w1 ⟨rfl, o1⟩; obtain ⟨k0, k1, k2, k3, k4, k5⟩ := HTc.out _ o1; have k6 := HDc.out _ o1)
 have HO1 : Hid (Old W w1) := o1
 clear k0 k1 k2 k3 k4 k5 k6 o1 HOr
 obtain ⟨k0, k1, k2, k3, k4, k5⟩ := HTc.out _ HO1.out
 obtain ⟨g0, g1, g2, g3, g4⟩ := HGc.out _ HO1.out
 go_upto_region 5 with (go_at_call 67; refine (HBg.out _ (HW0.out.trans HO1.out)).mono ?_; rintro e w2 ⟨rfl, o2⟩)
 have HO2 : Hid (Old W (w2.alloc (.cells #[.int .u64 (F 0)] 22))) := (HO1.out.trans o2).alloc _
 have HN2 : Hid (Nums (w2.alloc (.cells #[.int .u64 (F 0)] 22)) W.heap.size (.slice (some ⟨w2.heap.size, 0, none⟩) 1 1) 1 F) := nums_new w2 W.heap.size 1 [.int .u64 (F 0)] F (HO1.out.trans o2).size (by omega) rfl
 clear k0 k1 k2 k3 k4 k5 g0 g1 g2 g3 g4 o2 HO1 HBg
 generalize w2.alloc (.cells #[.int .u64 (F 0)] 22) = w3 at *
 go_upto_region 6 with fail
 go_loopw [10, 11] (fun v iv wx => ∃ p : Nat, iv = .int .i64 (p : Int) /\ 1 <= p /\ p <= no /\ Hid (Nums wx W.heap.size v p F) /\ Hid (Old W wx)) (fun _ iv _ => no - (intOf iv).toNat)
 case atStart => exact ⟨1, rfl, Nat.le_refl _, h1, HN2, HO2⟩
 case round =>
  obtain ⟨p, rfl, hp1, hp, HN, HO⟩ := hrel
  by_cases hlt : p < no
  · obtain ⟨i, hpi⟩ : ∃ i, p = i + 1 := ⟨p - 1, by omega⟩
   have HSub : Hid (Value.int .i64 (IntKind.i64.wrap ((p : Int) - 1)) = .int .i64 (i : Int)) := sub_one8 p i hpi (by omega)
   have HFp : Hid (F p = mulI (expI P Q (F i) (facI Q X Y Z (O p + 1))) (expI P Q H (T p)) P) := by unfold Hid; rw [hpi]; exact HFs.out i
   have hip : i < p := by omega
   clear hpi
   obtain ⟨lb, lc, cur, hv, _, _, _, hrow, hcur⟩ := HN.out.rows.cells hp1
   have HL : Hid (∀ wx, Old wr wx -> wx.cell? ⟨lb, 0 + i, none⟩ = some (.int .u64 (F i))) := fun wx hx => by rw [Nat.zero_add]; exact hx.cellOf (by rw [cell_of_row _ _ i _ _ (0, 0) hrow, hcur i (by omega)])
   clear hrow hcur
   subst hv
   rcases HIT.out with h0 | ⟨bx, ox, hqx, _, hrx⟩
   · omega
   have HC : Hid (∀ wx, Old wr wx -> wx.cell? ⟨bx, ox + p, none⟩ = some (.int .u64 (T p))) := fun wx hx => ((HW0.out.trans HO.out).trans hx).cellOf (hrx p hlt).1
   have HTp : Hid (U64 (T p)) := (hrx p hlt).2
   clear hrx
   subst hqx
   have HGr : Hid (∀ wx, Old wr wx -> wx.heap[gb]? = some (.cells (gc P Q G H a n cap) 25 (0, 0))) := fun wx hx => HG.out _ (HO.out.trans hx)
   have HTr : Hid (∀ wx, Old wr wx -> wx.heap[gb + 1]? = some (.cells (tkc ba no ca X bb no cb Y Z bp np cp) 41 (0, 0))) := fun wx hx => HTk.out _ (HO.out.trans hx)
   have HDe : Hid (∀ wx, Old wr wx -> Calls Tryz.prog 69 #[gv P Q G H a n cap, .slice bo no co, tk ba no ca X bb no cb Y Z bp np cp, .int .i64 (p : Int)] wx (Ret wx (.int .u64 (facI Q X Y Z (O p + 1))))) := fun wx hx => HDd.out wx p ((HW0.out.trans HO.out).trans hx) hlt
   have HFi : Hid (U64 (F i)) := HFu.out i
   go_upto_region 8 with fail
   refine wp_region_tab 13 [.k (gv P Q G H a n cap), .k (.slice (some ⟨lb, 0, none⟩) p lc), .k (.int .i64 (p : Int)), .k (.int .i64 (i : Int)), .k (.pointer (some ⟨lb, 0 + i, none⟩)), .k (.int .u64 (F i)), .k (gv P Q G H a n cap), .k (.slice bo no co), .k (tk ba no ca X bb no cb Y Z bp np cp), .k (.int .i64 (p : Int)), .k (.int .u64 (facI Q X Y Z (O p + 1))), .k (.int .u64 (expI P Q (F i) (facI Q X Y Z (O p + 1)))), .k (.int .u64 (expI P Q (F i) (facI Q X Y Z (O p + 1))))] (Old wr) (by kernel_rfl) (by kernel_rfl) rfl ((Old.refl _).drew) ?st ?_
   case st =>
    refine .c (sts Tryz.underlying25 HGr.out) <| .c stp <| .c stp <| .c (stv HSub.out) <| .c (sti (n := p) (c := lc) hip Tryz.underlying29) <| .c (stl Tryz.underlying22 HL.out) <| .c (sts Tryz.underlying25 HGr.out) <| .c stp <| .c (sts Tryz.underlying41 HTr.out) <| .c stp <| .c (stK old_R Tryz.func69 (fun wx hx => HDe.out wx hx)) <| .c (stK old_R Tryz.func68 (fun wx _ => srexp_any P Q G H a n cap _ _ h4 HFi.out (u64_fac _ _ _ _ _) wx)) <| .c stp .n
   intro t wx hR hk
   simp only [fill, Ent.val, List.set_cons_zero, List.set_cons_succ, List.drop_succ_cons, List.drop_zero, List.drop_nil]
   go_upto_region 9 with fail
   have HOx : Hid (Old W wx) := HO.out.trans hR
   have HNx : Hid (Nums wx W.heap.size (.slice (some ⟨lb, 0, none⟩) p lc) p F) := HN.out.old hR
   have HGx : Hid (∀ wy, Old wx wy -> wy.heap[gb]? = some (.cells (gc P Q G H a n cap) 25 (0, 0))) := fun wy hx => HG.out _ (HOx.out.trans hx)
   have HDx : Hid (∀ wy, Old wx wy -> wy.heap[gb + 1 + 1]? = some (.cells (dvc bρ nρ cρ bR nR cR bS nS cS (some ⟨bx, ox, none⟩) no cT bD nD cD) 31 (0, 0))) := fun wy hx => HDr.out _ (HOx.out.trans hx)
   have HCx : Hid (∀ wy, Old wx wy -> wy.cell? ⟨bx, ox + p, none⟩ = some (.int .u64 (T p))) := fun wy hx => HC.out _ (hR.trans hx)
   clear hR hk HGr HTr HDe HC HL HN HO
   have HMu : Hid (∀ wy, Calls Tryz.prog 70 #[.int .u64 (expI P Q (F i) (facI Q X Y Z (O p + 1))), .int .u64 (expI P Q H (T p)), .int .u64 P] wy (Ret wy (.int .u64 (F p)))) := fun wy => by rw [HFp.out]; exact srmul_any _ _ P (u64_exp _ _ _ _) (u64_exp _ _ _ _) wy
   refine wp_region_tab 15 [.k (.slice (some ⟨lb, 0, none⟩) p lc), .k (.int .u64 (expI P Q (F i) (facI Q X Y Z (O p + 1)))), .k (gv P Q G H a n cap), .k (.pointer (some ⟨gb, 3, none⟩)), .k (.int .u64 H), .k (.pointer (some ⟨gb + 1 + 1, 3, none⟩)), .k (.slice (some ⟨bx, ox, none⟩) no cT), .k (.int .i64 (p : Int)), .k (.pointer (some ⟨bx, ox + p, none⟩)), .k (.int .u64 (T p)), .k (.int .u64 (expI P Q H (T p))), .k (.pointer (some ⟨gb, 0, none⟩)), .k (.int .u64 P), .k (.int .u64 (F p)), blkE 1 #[.int .u64 (F p)] 22] (Old wx) (by kernel_rfl) (by kernel_rfl) rfl ((Old.refl _).drew) ?st ?_
   case st =>
    refine .c stp <| .c stp <| .c (sts Tryz.underlying25 HGx.out) <| .c stp <| .c (stf 3 Tryz.underlying22 HGx.out) <| .c stp <| .c (stf 3 Tryz.underlying29 HDx.out) <| .c stp <| .c (sti (n := no) (c := cT) hlt Tryz.underlying29) <| .c (stl Tryz.underlying22 HCx.out) <| .c (stK old_R Tryz.func68 (fun wy _ => srexp_any P Q G H a n cap H _ h4 ⟨h4.h0, h4.h1⟩ HTp.out wy)) <| .c stp <| .c (stf 0 Tryz.underlying22 HGx.out) <| .c (stK old_R Tryz.func70 (fun wy _ => HMu.out wy)) <| .c (stm (ob := fun t => .cells #[.int .u64 (F p)] 22) (v := fun s => .slice (some ⟨s, 0, none⟩) 1 1) old_R fun t wx hR hd => ⟨_, rfl, heap_alloc_last _ _⟩) .n
   intro t_1 wz hR2 hk2
   simp only [fill, Ent.val, blkE, List.set_cons_zero, List.set_cons_succ, List.drop_succ_cons, List.drop_zero, List.drop_nil]
   obtain ⟨bs, ebs, hbs⟩ : ∃ b, t_1 14 = .slice (some ⟨b, 0, none⟩) 1 1 /\ wz.heap[b]? = some (.cells #[.int .u64 (F p)] 22 (0, 0)) := hk2 14 (by omega)
   rw [ebs]
   have HNz : Hid (Nums wz W.heap.size (.slice (some ⟨lb, 0, none⟩) p lc) p F) := HNx.out.old hR2
   have HOz : Hid (Old W wz) := HOx.out.trans hR2
   have HSz : Hid (W.heap.size <= wz.heap.size) := HOz.out.size
   clear hk2 hR2 HGx HDx HCx HMu HNx HOx HSub
   go_wp2_with (at_builtin; refine wpList_append_lies _ rfl _ _ 29 rfl W.heap.size 22 i0 (.int .u64 0) 1 8 Tryz.underlying29 hi0 hz0 hz1 hz2 rfl (by decide) _ _ _ rfl HNz.out ⟨bs, 0, none⟩ 1 1 [.int .u64 (F p)] rfl rfl ?c1 ?c2 (by decide) ?c3 ?c4 HSz.out _ rfl ?_)
   case c1 => exact cells_row8 hbs
   case c2 => intro u hu; simp at hu; rcases hu with rfl; rfl
   case c3 => unfold maxLen; omega
   case c4 => omega
   intro g9 cap9 w9 hown9 hgrow9 hat9 _
   have HN9 : Hid (Nums w9 W.heap.size (.slice (some ⟨g9, 0, none⟩) (p + 1) cap9) (p + 1) F) := Nums.app hown9 rfl
   have HO9 : Hid (Old W w9) := HOz.out.grown hgrow9 fun q hq => (World.ownsRow.lt HNz.out q hq).1
   clear hown9 hgrow9 hat9 HNz HOz hbs ebs HSz
   go_wp2
   go_roundw
   case rel => exact ⟨p + 1, idx_next p, by omega, by omega, HN9, HO9⟩
   case measure => simp [intOf]; omega
  · have he : no = p := by omega
   subst he
   go_wp2_with fail
   go_ret
   exact ⟨HW0.out.trans HO.out, _, rfl, HN.out.mono HW0.out.size⟩
end
section
open Go Go.RowKit
def GivR (w : World) (ok : Bool) (m : Nat) (C : Nat -> Nat -> Int) (r : Ending) (w' : World) : Prop := Old w w' /\ ∃ a c, r = .returned (.tuple #[.slice a (if ok then m else 0) c, .bool ok]) /\ BoxF w' a (if ok then m else 0) C
theorem givR_no {w w' : World} {ok : Bool} {m : Nat} {C : Nat -> Nat -> Int} (hok : ok = false) (ho : Old w w') : GivR w ok m C (.returned (.tuple #[.slice none 0 0, .bool false])) w' := by
 subst hok
 exact ⟨ho, none, 0, rfl, Or.inl rfl⟩
theorem mixB_ref {P Q y : Int} {m : Nat} {C : Nat -> Nat -> Int} {no : Nat} {O : Nat -> Int} {nρ : Nat} : mixB P Q y m C no O nρ = true ↔ batB P Q m C = true /\ inI P Q y = true /\ ordR no O = true /\ no = m /\ nρ = m := by
 unfold mixB ordR
 simp only [Bool.and_eq_true_iff, decide_eq_true_eq]
 constructor
 · rintro ⟨h1, h2, h3, h4, h5⟩
  have := (batB_iff.1 h4).1
  exact ⟨h4, h5, ⟨by omega, h3⟩, h1, h2⟩
 · rintro ⟨h4, h5, ⟨_, h3⟩, h1, h2⟩
  exact ⟨h1, h2, h3, h4, h5⟩
theorem info_pair8r : (Tryz.prog.info? 69).map (·.size) = some 2 := by kernel_rfl
theorem pair_load8 (w : World) (b off : Nat) (u v : Int) (h0 : w.cell? ⟨b, off, none⟩ = some (.int .u64 u)) (h1 : w.cell? ⟨b, off + 1, none⟩ = some (.int .u64 v)) : (loadVar 69 ⟨b, off, none⟩).run Tryz.prog w = .ok (pv u v) w :=
 run_load_cells w b off _ #[.int .u64 u, .int .u64 v] _ (fun j v hv => by
  match j, (show j < 2 from (Array.getElem?_eq_some_iff.1 hv).1) with
  | 0, _ => exact h0.trans hv
  | 1, _ => exact h1.trans hv) Tryz.underlying69 rfl info_pair8r
theorem boxinfo9 : (Tryz.prog.info? 74).map (fun i => (i.zero, i.size, i.bytes)) = some (some (.agg #[.int .u64 0, .int .u64 0, .int .u64 0, .int .u64 0, .int .u64 0, .int .u64 0]), 6, 48) := by kernel_rfl
def mxV (k : Nat) (M C : Nat -> Int) : Nat -> Value := fun q => .int .u64 (if q < k then M q else C q)
theorem mxV_row (w : World) (M C : Nat -> Int) : FulV (w.alloc (.cells (bx6a C) 74)) w.heap.size 6 74 (mxV 0 M C) := by
 unfold FulV
 rw [heap_alloc_last]
 rfl
theorem mxV_next {w : World} {b k : Nat} {M C : Nat -> Int} {x z : Int} (h : FulV w b 6 74 (mxV k M C)) (hx : M k = x) (hz : M (k + 1) = z) : FulV ((w.setCell ⟨b, k, none⟩ (.int .u64 x)).setCell ⟨b, k + 1, none⟩ (.int .u64 z)) b 6 74 (mxV (k + 2) M C) :=
 ((h.set k (.int .u64 x)).set (k + 1) (.int .u64 z)).congr fun q hq => by
  unfold mxV
  by_cases h1 : q = k + 1
  · rw [if_pos h1, if_pos (by omega), h1, hz]
  · rw [if_neg h1]
   by_cases h2 : q = k
   · rw [if_pos h2, if_pos (by omega), h2, hx]
   · rw [if_neg h2]
    by_cases h3 : q < k
    · rw [if_pos h3, if_pos (by omega)]
    · rw [if_neg h3, if_neg (by omega)]
theorem saj0 {P : Program} {ops : List Oper} {L0 : List Value} {E : List Ent} {R : World -> Prop} {dst : Option Tmp} {ty : TypeId} {pos : String} {after : Array Edge} {guard : Option (Nat × Bool)} {T e : TypeId} {x ix : Operand} {b n k : Nat} (sz : Nat) (hi : k < n) (hu : P.underlying T = some (.array n e)) (hs : (P.info? e).map (·.size) = some sz := by kernel_rfl) (hg : guardT E ⟨dst, .indexAddr T x ix, ty, pos, after, guard⟩ = some true := by rfl) (hx : ∀ t, Act.eval ⟨(fill ops E t 0 L0).toArray, []⟩ x = .pointer (some ⟨b, 0, none⟩) := by intro _; kernel_rfl) (hix : ∀ t, Act.eval ⟨(fill ops E t 0 L0).toArray, []⟩ ix = .int .i64 (k : Int) := by intro _; kernel_rfl) : StepT P ops L0 E R ⟨dst, .indexAddr T x ix, ty, pos, after, guard⟩ (.k (.pointer (some ⟨b, k * sz, none⟩))) := by
 have h := saj (P := P) (ops := ops) (L0 := L0) (E := E) (R := R) (off := 0) (i := k) sz hi hu hs hg hx hix
 rwa [Nat.zero_add] at h
theorem rmix8_any (P Q G H : Int) (a : Option Addr) (n cap : Nat) (y : Int) (bi : Option Addr) (m ci : Nat) (C : Nat -> Nat -> Int) (bo : Option Addr) (no co : Nat) (O : Nat -> Int) (bρ : Option Addr) (nρ cρ : Nat) (R : Nat -> Nat -> Int) (w : World) (h4 : Four P Q G H) (hr : Righ P Q G) (hy : U64 y) (mm : m <= 80) (mo : no <= 80) (mρ : nρ <= 80) (hC : BoxsIn w bi m C) (hO : IntsIn w bo no O) (hR : RhoIn w bρ nρ R) :
  Calls Tryz.prog 16 #[gv P Q G H a n cap, .int .u64 y, .slice bi m ci, .slice bo no co, .slice bρ nρ cρ] w (GivR w (mixB P Q y m C no O nρ) m (mixC P Q G y C O R)) := by
 have HBa : Hid (∀ wx, Old w wx -> Calls Tryz.prog 54 #[gv P Q G H a n cap, .slice bi m ci] wx (Ret wx (.bool (batB P Q m C)))) := fun wx ho => rbatch8_any P Q G H a n cap bi m ci C wx h4 (by omega) (hC.old ho)
 have HIn : Hid (∀ wx, Calls Tryz.prog 55 #[gv P Q G H a n cap, .int .u64 y] wx (Ret wx (.bool (inI P Q y)))) := fun wx => rin_any P Q G H y a n cap wx h4.q0 h4.q1 hy.2
 have HOr : Hid (∀ wx, Old w wx -> Calls Tryz.prog 56 #[.slice bo no co] wx (Ret wx (.bool (ordR no O)))) := fun wx ho => rorder8_any bo no co O wx (by omega) (hO.old ho)
 have HZ := lain1 w (gc P Q G H a n cap) 25
 have HG0 := fun w' ho => (HZ.then (W' := w') ho).row 0 (by simp)
 have HW0 : Hid (Old w (w.alloc (.cells (gc P Q G H a n cap) 25))) := HZ.old
 clear HZ
 by_cases hok : mixB P Q y m C no O nρ = true
 rotate_left
 · have HN : Hid (mixB P Q y m C no O nρ = false) := by unfold Hid; simpa using hok
  have hno : ¬ (batB P Q m C = true /\ inI P Q y = true /\ ordR no O = true /\ no = m /\ nρ = m) := fun h => hok (mixB_ref.2 h)
  clear hok h4 hr hC hO hR
  generalize mixB P Q y m C no O nρ = mb at *
  generalize mixC P Q G y C O R = M at *
  go_enter Tryz.func16, Tryz.ntmps16
  go_upto_region 1 with fail
  generalize w.alloc (.cells (gc P Q G H a n cap) 25) = W at *
  obtain ⟨gb, hgb⟩ : ∃ gb, gb = w.heap.size := ⟨_, rfl⟩
  have HG : Hid (∀ wx, Old W wx -> wx.heap[gb]? = some (.cells (gc P Q G H a n cap) 25 (0, 0))) := by rw [hgb]; exact HG0
  rw [<- hgb]
  clear hgb HG0
  have HGc : Hid (∀ wx, Old W wx -> wx.cell? ⟨gb, 0, none⟩ = some (.int .u64 P) /\ wx.cell? ⟨gb, 1, none⟩ = some (.int .u64 Q) /\ wx.cell? ⟨gb, 2, none⟩ = some (.int .u64 G) /\ wx.cell? ⟨gb, 3, none⟩ = some (.int .u64 H) /\ wx.cell? ⟨gb, 4, none⟩ = some (.slice a n cap)) := fun wx ho => ⟨cell_of_row _ _ 0 _ _ (0, 0) (HG.out _ ho), cell_of_row _ _ 1 _ _ (0, 0) (HG.out _ ho), cell_of_row _ _ 2 _ _ (0, 0) (HG.out _ ho), cell_of_row _ _ 3 _ _ (0, 0) (HG.out _ ho), cell_of_row _ _ 4 _ _ (0, 0) (HG.out _ ho)⟩
  obtain ⟨d0, d1, d2, d3, d4⟩ := HGc.out _ (Old.refl _)
  cases hb : batB P Q m C with
  | false =>
   rw [hb] at HBa
   clear hb hno
   go_wp2_with (go_at_call 54; refine (HBa.out _ HW0.out).mono ?_; rintro e w1 ⟨rfl, o1⟩)
   go_ret2
   exact givR_no HN.out (HW0.out.trans o1)
  | true =>
   rw [hb] at HBa hno
   cases hi : inI P Q y with
   | false =>
    rw [hi] at HIn
    clear hb hno hi
    go_wp2_with (first
     | (go_at_call 54; refine (HBa.out _ HW0.out).mono ?_; rintro e w1 ⟨rfl, o1⟩; obtain ⟨d0, d1, d2, d3, d4⟩ := HGc.out _ o1)
     | (go_at_call 55; refine (HIn.out _).mono ?_; rintro e w2 ⟨rfl, o2⟩))
    go_ret2
    exact givR_no HN.out ((HW0.out.trans o1).trans o2)
   | true =>
    rw [hi] at HIn hno
    cases ho : ordR no O with
    | false =>
     rw [ho] at HOr
     clear hb hno hi ho
     go_wp2_with (first
      | (go_at_call 54; refine (HBa.out _ HW0.out).mono ?_; rintro e w1 ⟨rfl, o1⟩; obtain ⟨d0, d1, d2, d3, d4⟩ := HGc.out _ o1)
      | (go_at_call 55; refine (HIn.out _).mono ?_; rintro e w2 ⟨rfl, o2⟩)
      | (go_at_call 56; refine (HOr.out _ ((HW0.out.trans o1).trans o2)).mono ?_; rintro e w3 ⟨rfl, o3⟩))
     go_ret2
     exact givR_no HN.out (((HW0.out.trans o1).trans o2).trans o3)
    | true =>
     rw [ho] at HOr hno
     by_cases h1 : no = m
     · have h2 : ¬ nρ = m := fun h => hno ⟨rfl, rfl, rfl, h1, h⟩
      have k0 : ((no : Int) != (m : Int)) = false := by simp; omega
      have k1 : ((nρ : Int) != (m : Int)) = true := by simp; omega
      have k2 : ¬ (nρ : Int) = (m : Int) := by omega
      have k3 : (no : Int) = (m : Int) := by omega
      clear hb hno hi ho h1 h2
      go_wp2_with (first
       | (go_at_call 54; refine (HBa.out _ HW0.out).mono ?_; rintro e w1 ⟨rfl, o1⟩; obtain ⟨d0, d1, d2, d3, d4⟩ := HGc.out _ o1)
       | (go_at_call 55; refine (HIn.out _).mono ?_; rintro e w2 ⟨rfl, o2⟩)
       | (go_at_call 56; refine (HOr.out _ ((HW0.out.trans o1).trans o2)).mono ?_; rintro e w3 ⟨rfl, o3⟩))
      go_ret2
      exact givR_no HN.out (((HW0.out.trans o1).trans o2).trans o3)
     · have k1 : ((no : Int) != (m : Int)) = true := by simp; omega
      have k2 : ¬ (no : Int) = (m : Int) := by omega
      clear hb hno hi ho h1
      go_wp2_with (first
       | (go_at_call 54; refine (HBa.out _ HW0.out).mono ?_; rintro e w1 ⟨rfl, o1⟩; obtain ⟨d0, d1, d2, d3, d4⟩ := HGc.out _ o1)
       | (go_at_call 55; refine (HIn.out _).mono ?_; rintro e w2 ⟨rfl, o2⟩)
       | (go_at_call 56; refine (HOr.out _ ((HW0.out.trans o1).trans o2)).mono ?_; rintro e w3 ⟨rfl, o3⟩))
      go_ret2
      exact givR_no HN.out (((HW0.out.trans o1).trans o2).trans o3)
 obtain ⟨hba, hin, hord, e1, e2⟩ := mixB_ref.1 hok
 rw [hba] at HBa
 rw [hin] at HIn
 rw [hord] at HOr
 rw [hok]
 have e1' : m = no := e1.symm
 subst e1'
 have e2' : m = nρ := e2.symm
 subst e2'
 clear e1 e2 hok
 have HX : Hid (IntsIn w bo m O) := hO
 have HCx : Hid (BoxsIn w bi m C) := hC
 have HRx : Hid (RhoIn w bρ m R) := hR
 have HPo : Hid (OrdP m O) := ordB_iff.1 (by have := hord; unfold ordR at this; exact (Bool.and_eq_true_iff.1 this).2)
 have h8 : m <= 8 := (batB_iff.1 hba).1.2
 have H4 : Hid (Four P Q G H) := h4
 have HRi : Hid (Righ P Q G) := hr
 obtain ⟨D, hD⟩ : ∃ D : Nat -> Nat -> Int, D = mixC P Q G y C O R := ⟨_, rfl⟩
 have HDe : Hid (D = mixC P Q G y C O R) := hD
 rw [<- hD]
 clear hD hC hO hR h4 hr hba hin hord
 obtain ⟨i0, hi0, hz⟩ := Option.map_eq_some_iff.1 boxinfo9
 simp only [Prod.mk.injEq] at hz
 obtain ⟨hz0, hz1, hz2⟩ := hz
 have HI0 : Hid (Tryz.prog.info? 74 = some i0 /\ i0.zero = some (.agg #[.int .u64 0, .int .u64 0, .int .u64 0, .int .u64 0, .int .u64 0, .int .u64 0]) /\ i0.size = 6 /\ i0.bytes = 48) := ⟨hi0, hz0, hz1, hz2⟩
 clear hi0 hz0 hz1 hz2
 go_enter Tryz.func16, Tryz.ntmps16
 go_upto_region 1 with fail
 generalize w.alloc (.cells (gc P Q G H a n cap) 25) = W at *
 obtain ⟨gb, hgb⟩ : ∃ gb, gb = w.heap.size := ⟨_, rfl⟩
 have HG : Hid (∀ wx, Old W wx -> wx.heap[gb]? = some (.cells (gc P Q G H a n cap) 25 (0, 0))) := by rw [hgb]; exact HG0
 rw [<- hgb]
 clear hgb HG0
 have HGc : Hid (∀ wx, Old W wx -> wx.cell? ⟨gb, 0, none⟩ = some (.int .u64 P) /\ wx.cell? ⟨gb, 1, none⟩ = some (.int .u64 Q) /\ wx.cell? ⟨gb, 2, none⟩ = some (.int .u64 G) /\ wx.cell? ⟨gb, 3, none⟩ = some (.int .u64 H) /\ wx.cell? ⟨gb, 4, none⟩ = some (.slice a n cap)) := fun wx ho => ⟨cell_of_row _ _ 0 _ _ (0, 0) (HG.out _ ho), cell_of_row _ _ 1 _ _ (0, 0) (HG.out _ ho), cell_of_row _ _ 2 _ _ (0, 0) (HG.out _ ho), cell_of_row _ _ 3 _ _ (0, 0) (HG.out _ ho), cell_of_row _ _ 4 _ _ (0, 0) (HG.out _ ho)⟩
 obtain ⟨d0, d1, d2, d3, d4⟩ := HGc.out _ (Old.refl _)
 go_upto_region 5 with (first
  | (go_at_call 54; refine (HBa.out _ HW0.out).mono ?_; rintro e w1 ⟨rfl, o1⟩; obtain ⟨d0, d1, d2, d3, d4⟩ := HGc.out _ o1)
  | (go_at_call 55; refine (HIn.out _).mono ?_; rintro e w2 ⟨rfl, o2⟩)
  | (go_at_call 56; refine (HOr.out _ ((HW0.out.trans o1).trans o2)).mono ?_; rintro e w3 ⟨rfl, o3⟩))
 have HO3 : Hid (Old W w3) := (o1.trans o2).trans o3
 clear o1 o2 o3 d0 d1 d2 d3 d4 HBa HIn HOr HGc
 go_loopw [12, 13] (fun v iv wx => ∃ i : Nat, iv = .int .i64 (i : Int) /\ i <= m /\ Hid (RowsN wx W.heap.size 74 6 v i (bxL D)) /\ Hid (Old W wx)) (fun _ iv _ => m - (intOf iv).toNat)
 case atStart => exact ⟨0, rfl, Nat.zero_le _, rowsN_nil _ _ _ _ _, HO3⟩
 case round =>
  obtain ⟨i, rfl, hi, HN, HO⟩ := hrel
  by_cases hlt : i < m
  · rcases HX.out with h0 | ⟨bx, ox, hqx, _, hrx⟩
   · omega
   have cx := (HW0.out.trans HO.out).cellOf (hrx i hlt).1
   have hp := HPo.out.2.1 i hlt
   obtain ⟨p, hpe⟩ : ∃ p : Nat, O i = (p : Int) := ⟨(O i).toNat, by omega⟩
   have HPe : Hid ((O i).toNat = p) := by unfold Hid; omega
   rw [hpe] at cx hp
   have hpn : p < m := by omega
   clear hpe hp hrx
   subst hqx
   rcases HCx.out with h0 | ⟨bc, oc, hqc, _, hrc⟩
   · omega
   have hcc : ∀ k, k < 6 -> wr.cell? ⟨bc, oc + p * 6 + k, none⟩ = some (.int .u64 (C p k)) /\ U64 (C p k) := fun k hk => ⟨(HW0.out.trans HO.out).cellOf (hrc p hpn k hk).1, (hrc p hpn k hk).2⟩
   have c0 : wr.cell? ⟨bc, oc + p * 6, none⟩ = some (.int .u64 (C p 0)) := (hcc 0 (by omega)).1
   have c1 := (hcc 1 (by omega)).1
   have c2 := (hcc 2 (by omega)).1
   have c3 := (hcc 3 (by omega)).1
   have c4 := (hcc 4 (by omega)).1
   have c5 := (hcc 5 (by omega)).1
   have HCu : Hid (∀ k, k < 6 -> U64 (C p k)) := fun k hk => (hcc k hk).2
   clear hrc hcc
   subst hqc
   have HB0 : Hid (FulV (wr.alloc (.cells (bx6a (C p)) 74)) wr.heap.size 6 74 (mxV 0 (D i) (C p))) := mxV_row _ _ _
   have HO1 : Hid (Old wr (wr.alloc (.cells (bx6a (C p)) 74))) := (Old.refl _).alloc _
   have HSz : Hid (W.heap.size <= wr.heap.size) := HO.out.size
   go_upto_region 9 with fail
   clear c0 c1 c2 c3 c4 c5 cx
   obtain ⟨nb, hnb⟩ : ∃ nb, nb = wr.heap.size := ⟨_, rfl⟩
   rw [<- hnb] at HB0
   rw [<- hnb]
   have Hnb : Hid (wr.heap.size <= nb) := by unfold Hid; omega
   clear hnb
   obtain ⟨w5, hw5⟩ : ∃ w5, w5 = wr.alloc (.cells (bx6a (C p)) 74) := ⟨_, rfl⟩
   rw [<- hw5] at HB0 HO1
   try rw [<- hw5]
   clear hw5
   go_loopw [15] (fun kv wx => ∃ k : Nat, kv = .int .i64 (k : Int) /\ k <= 3 /\ Hid (FulV wx nb 6 74 (mxV (k * 2) (D i) (C p))) /\ Hid (Old wr wx)) (fun kv _ => 3 - (intOf kv).toNat)
   case atStart => exact ⟨0, rfl, Nat.zero_le _, by rw [Nat.zero_mul]; exact HB0, HO1⟩
   case round =>
    obtain ⟨k, rfl, hk, HB, HO2⟩ := hrel
    by_cases hkl : k < 3
    · have k3 : (k : Int) < 3 := by omega
     rcases HRx.out with h0 | ⟨by_, oy, hqy, _, hry⟩
     · omega
     have HRu : Hid (U64 (R i k)) := (hry i hlt k hkl).2
     have HRc : Hid (∀ wx, Old wr wx -> wx.cell? ⟨by_, oy + i * 3 + k, none⟩ = some (.int .u64 (R i k))) := fun wx hx => (((HW0.out.trans HO.out).trans HO2.out).trans hx).cellOf (hry i hlt k hkl).1
     clear hry
     subst hqy
     have HPl : Hid (∀ wx, Old wr wx -> (loadVar 69 ⟨nb, k * 2, none⟩).run Tryz.prog wx = .ok (pv (C p (2 * k)) (C p (2 * k + 1))) wx) := fun wx ho => by
      have hb := HB.out.old ho
      refine pair_load8 wx nb _ _ _ ?_ ?_
      · rw [hb.cell (k * 2) (by omega)]; unfold mxV; rw [if_neg (by omega), show k * 2 = 2 * k by omega]
      · rw [hb.cell (k * 2 + 1) (by omega)]; unfold mxV; rw [if_neg (by omega), show k * 2 + 1 = 2 * k + 1 by omega]
     have HDu : Hid (D i (2 * k) = mulI (C p (2 * k)) (expI P Q G (R i k)) P) := by
      unfold Hid; rw [HDe.out]; unfold mixC; rw [if_pos (by omega), HPe.out, show 2 * k / 2 = k by omega]
     have HDv : Hid (D i (2 * k + 1) = mulI (C p (2 * k + 1)) (expI P Q y (R i k)) P) := by
      unfold Hid; rw [HDe.out]; unfold mixC; rw [if_neg (by omega), HPe.out, show (2 * k + 1) / 2 = k by omega]
     have HCv : Hid (U64 (C p (2 * k)) /\ U64 (C p (2 * k + 1))) := ⟨HCu.out _ (by omega), HCu.out _ (by omega)⟩
     have HAg : Hid (∀ wx, Calls Tryz.prog 57 #[gv P Q G H a n cap, .int .u64 y, pv (C p (2 * k)) (C p (2 * k + 1)), .int .u64 (R i k)] wx (Ret wx (pv (D i (2 * k)) (D i (2 * k + 1))))) := fun wx => by rw [HDu.out, HDv.out]; exact ragain_any P Q G H a n cap y _ _ _ wx H4.out HRi.out hy HCv.out.1 HCv.out.2 HRu.out
     have HGr : Hid (∀ wx, Old wr wx -> wx.heap[gb]? = some (.cells (gc P Q G H a n cap) 25 (0, 0))) := fun wx ho => HG.out wx ((HO.out.trans HO2.out).trans ho)
     go_upto_region 11 with fail
     refine wp_region_tab 14 [.k (.int .i64 (k : Int)), .k (gv P Q G H a n cap), .k (.int .u64 y), .k (.int .i64 (k : Int)), .k (.pointer (some ⟨nb, k * 2, none⟩)), .k (pv (C p (2 * k)) (C p (2 * k + 1))), .k (.slice (some ⟨by_, oy, none⟩) m cρ), .k (.int .i64 (i : Int)), .k (.int .i64 (k : Int)), .k (.pointer (some ⟨by_, oy + i * 3, none⟩)), .k (.pointer (some ⟨by_, oy + i * 3 + k, none⟩)), .k (.int .u64 (R i k)), .k (pv (D i (2 * k)) (D i (2 * k + 1))), .k (.pointer (some ⟨nb, k * 2, none⟩))] (Old wr) (by kernel_rfl) (by kernel_rfl) rfl ((Old.refl _).drew) ?st ?_
     case st =>
      refine .c stp <| .c (sts Tryz.underlying25 HGr.out) <| .c stp <| .c stp <| .c (saj0 2 hkl Tryz.underlying74) <| .c (stlv HPl.out) <| .c stp <| .c stp <| .c stp <| .c (stj (n := m) (c := cρ) 3 hlt Tryz.underlying28) <| .c (sai hkl Tryz.underlying63) <| .c (stl Tryz.underlying22 HRc.out) <| .c (stK old_R Tryz.func57 (fun wy _ => HAg.out wy)) <| .c (saj0 2 hkl Tryz.underlying74) .n
     intro t wz hR2 hk2
     simp only [fill, Ent.val, List.set_cons_zero, List.set_cons_succ, List.drop_succ_cons, List.drop_zero, List.drop_nil]
     have HBz := HB.out.old hR2
     have HB3 : Hid (FulV ((wz.setCell ⟨nb, k * 2, none⟩ (.int .u64 (D i (2 * k)))).setCell ⟨nb, k * 2 + 1, none⟩ (.int .u64 (D i (2 * k + 1)))) nb 6 74 (mxV ((k + 1) * 2) (D i) (C p))) := by
      have h := mxV_next HBz (x := D i (2 * k)) (z := D i (2 * k + 1)) (by rw [show k * 2 = 2 * k by omega]) (by rw [show k * 2 + 1 = 2 * k + 1 by omega])
      rwa [show k * 2 + 2 = (k + 1) * 2 by omega] at h
     have HO3' : Hid (Old _ ((wz.setCell ⟨nb, k * 2, none⟩ (.int .u64 (D i (2 * k)))).setCell ⟨nb, k * 2 + 1, none⟩ (.int .u64 (D i (2 * k + 1))))) := ((HO2.out.trans hR2).setCell (p := ⟨nb, k * 2, none⟩) Hnb.out _).setCell (p := ⟨nb, k * 2 + 1, none⟩) Hnb.out _
     have q0 := HBz.cell (k * 2) (by omega)
     have q1 := HBz.cell (k * 2 + 1) (by omega)
     have f0 := HBz.free (k * 2)
     have f1 := HBz.free (k * 2 + 1)
     unfold mxV at q0 q1
     clear hR2 hk2 HBz HRc HPl HAg HGr
     generalize D i (2 * k) = du at *
     generalize D i (2 * k + 1) = dv8 at *
     go_wp2_with fail
     go_roundw
     case rel => exact ⟨k + 1, idx_next k, by omega, HB3, HO3'⟩
     case measure => simp [intOf]; omega
    · have hk3 : k = 3 := by omega
     subst hk3
     have HB6 : Hid (wr.heap[nb]? = some (.cells (bx6a (D i)) 74 (0, 0))) := HB.out
     have m0 : wr.cell? ⟨nb, 0, none⟩ = some (.int .u64 (D i 0)) := cell_of_row _ _ 0 _ _ (0, 0) HB6.out
     have m1 : wr.cell? ⟨nb, 1, none⟩ = some (.int .u64 (D i 1)) := cell_of_row _ _ 1 _ _ (0, 0) HB6.out
     have m2 : wr.cell? ⟨nb, 2, none⟩ = some (.int .u64 (D i 2)) := cell_of_row _ _ 2 _ _ (0, 0) HB6.out
     have m3 : wr.cell? ⟨nb, 3, none⟩ = some (.int .u64 (D i 3)) := cell_of_row _ _ 3 _ _ (0, 0) HB6.out
     have m4 : wr.cell? ⟨nb, 4, none⟩ = some (.int .u64 (D i 4)) := cell_of_row _ _ 4 _ _ (0, 0) HB6.out
     have m5 : wr.cell? ⟨nb, 5, none⟩ = some (.int .u64 (D i 5)) := cell_of_row _ _ 5 _ _ (0, 0) HB6.out
     have hwv : W.heap.size <= wr.heap.size := (HO.out.trans HO2.out).size
     have HNv := HN.out.old HO2.out
     have HOv : Hid (Old W wr) := HO.out.trans HO2.out
     have HNews : Hid ([Value.int .u64 (D i 0), .int .u64 (D i 1), .int .u64 (D i 2), .int .u64 (D i 3), .int .u64 (D i 4), .int .u64 (D i 5)] = (List.range 6).map fun q => bxL D (i * 6 + q)) := box_news D i
     obtain ⟨hi0, hz0, hz1, hz2⟩ := HI0.out
     clear HB HO2 HB0 HO1 HB6
     generalize D i 0 = x0 at *
     generalize D i 1 = x1 at *
     generalize D i 2 = x2 at *
     generalize D i 3 = x3 at *
     generalize D i 4 = x4 at *
     generalize D i 5 = x5 at *
     go_wp2_with (at_builtin; refine wpList_append_lies _ rfl _ _ 26 rfl W.heap.size 74 i0 (.agg #[.int .u64 0, .int .u64 0, .int .u64 0, .int .u64 0, .int .u64 0, .int .u64 0]) 6 48 Tryz.underlying26 hi0 hz0 hz1 hz2 rfl (by decide) _ _ _ rfl (World.ownsRow.alloc HNv _) ⟨wr.heap.size, 0, none⟩ 1 1 [.int .u64 x0, .int .u64 x1, .int .u64 x2, .int .u64 x3, .int .u64 x4, .int .u64 x5] rfl rfl ?c1 ?c2 (by decide) ?c3 ?c4 ?c5 _ rfl ?_)
     case c1 => exact cells_new8 wr _ _
     case c2 => intro u hu; simp at hu; rcases hu with rfl | rfl | rfl | rfl | rfl | rfl <;> rfl
     case c3 => unfold maxLen; omega
     case c4 => omega
     case c5 => simp; omega
     intro g5 cap5 w9 hown9 hgrow9 hat9 _
     have HN9 : Hid (RowsN w9 W.heap.size 74 6 (.slice (some ⟨g5, 0, none⟩) (i + 1) cap5) (i + 1) (bxL D)) := RowsN.app hown9 HNews.out
     have HO9 : Hid (Old W w9) := (HOv.out.alloc _).grown hgrow9 fun q hq => (World.ownsRow.lt HNv q hq).1
     clear hown9 hgrow9 hat9 HNews HNv m0 m1 m2 m3 m4 m5
     go_wp2
     go_roundw
     case rel => exact ⟨i + 1, idx_next i, by omega, HN9, HO9⟩
     case measure => simp [intOf]; omega
  · have he : m = i := by omega
   subst he
   obtain ⟨b, c, e12, hbf⟩ := HN.out.boxF fun j k _ _ => by rw [HDe.out]; exact mixC_u64 _ _ _ _ _ _ _ j k
   have HF : Hid (BoxF wr b m D) := hbf
   rw [e12]
   clear e12 hbf
   go_wp2_with fail
   go_ret2
   exact ⟨HW0.out.trans HO.out, b, c, rfl, HF.out⟩
end
end Go.Proofs.YtlnmjbbpenhdbaaGreat
