/-
  What the proof needs, part 20.
-/
import Derived.Test.YtlnmjbbpenhdbaaGreatKp19
namespace Go.Proofs.YtlnmjbbpenhdbaaGreat
open Tryz
open List renaming set_cons_zero → zs0, set_cons_succ → zs1, drop_succ_cons → zd1, drop_zero → zd0, drop_nil → zdn
open Tryz renaming underlying3 → U3, underlying22 → U22, underlying25 → U25, underlying26 → U26, underlying27 → U27, underlying28 → U28, underlying29 → U29, underlying41 → U41, underlying63 → U63, underlying69 → U69, underlying74 → U74, underlying143 → U143
set_option linter.unusedSimpArgs false
set_option linter.unusedVariables false
set_option maxRecDepth 100000
set_option maxHeartbeats 32000000
section
open Go Go.RowKit
theorem Nums.rows {w : World} {base k : Nat} {v : Value} {F : NI} (h : Nums w base v k F) : RowsN w base 22 1 v k (fun q => .int .u64 (F q)) := by
 unfold RowsN
 rw [Nat.mul_one]
 exact h
theorem sub_one8 (p i : Nat) (h : p = i + 1) (hp : p <= 1000) : Value.int .i64 (IntKind.i64.wrap ((p : Int) - 1)) = .int .i64 (i : Int) := by
 subst h
 exact zdk i (by omega)
theorem rthird8_any (P Q G H : Int) (a : OA) (n cap : Nat) (bo : OA) (no co : Nat) (O : NI) (ba : OA) (ca : Nat) (A : NI) (X : Int) (bb : OA) (cb : Nat) (B : NI) (Y Z : Int) (bp : OA) (np cp : Nat) (bρ : OA) (nρ cρ : Nat) (bR : OA) (nR cR : Nat) (bS : OA) (nS cS : Nat) (bT : OA) (cT : Nat) (T : NI) (bD : OA) (nD cD : Nat) (w : World) (h4 : Four P Q G H) (hX : U64 X) (hY : U64 Y) (hZ : U64 Z) (ho : ordR no O = true) (hO : IntsIn w bo no O) (hA : FacsIn w ba no A) (hB : FacsIn w bb no B) (hT : FacsIn w bT no T) :
  Calls prog 25 #[gv P Q G H a n cap, .slice bo no co, tk ba no ca X bb no cb Y Z bp np cp, dv bρ nρ cρ bR nR cR bS nS cS bT no cT bD nD cD] w (GivL w no (thiI P Q G H X Y Z A B O T)) := by
 obtain ⟨i0, hi0, hz0, hz1, hz2⟩ := info_parts zbj
 have h8 : no <= 8 := (zbe.1 ho).1.2
 have h1 : 1 <= no := (zbe.1 ho).1.1
 have hP : OrdP no O := zaA.1 (by have := ho; unfold ordR at this; exact (Bool.and_eq_true_iff.1 this).2)
 have HOr : Hid (∀ wx, Old w wx -> Calls prog 56 #[.slice bo no co] wx (Ret wx (.bool true))) := fun wx hx => by have h := zbx bo no co O wx (by omega) (hO.old hx); rw [ho] at h; exact h
 have HBd : Hid (∀ i, i < no -> 0 <= O i /\ O i < 1000) := fun i hi => by have := hP.2.1 i hi; omega
 have HIT := hid hT
 have HTu := hid hT.u64
 obtain ⟨F, hF⟩ : ∃ F : Nat -> Int, F = thiI P Q G H X Y Z A B O T := ⟨_, rfl⟩
 have HF0 : Hid (F 0 = bigI P Q G (A 0) (B 0) Y Z) := by unfold Hid; rw [hF]; rfl
 have HFs : Hid (∀ i, F (i + 1) = mulI (expI P Q (F i) (facI Q X Y Z (O (i + 1) + 1))) (expI P Q H (T (i + 1))) P) := fun i => by rw [hF]; rfl
 have HFu : Hid (∀ i, U64 (F i)) := fun i => by rw [hF]; exact zb5 _ _ _ _ _ _ _ _ _ _ _ i
 rw [<- hF]
 have HBg : Hid (∀ wx, Old w wx -> Calls prog 67 #[gv P Q G H a n cap, tk ba no ca X bb no cb Y Z bp np cp, .int .i64 0] wx (Ret wx (.int .u64 (F 0)))) := fun wx hx => by rw [HF0.out]; exact rbig8_any P Q G H a n cap ba no ca X bb no cb Y Z bp np cp A B 0 wx h4 h1 h1 hY hZ (hA.old hx) (hB.old hx)
 have HDd := hid fun wx i (hx : Old w wx) (hi : i < no) => rd8_any P Q G H a n cap bo no co O ba no ca X bb no cb Y Z bp np cp i wx hi hX hY hZ (hO.old hx) (HBd.out i hi)
 clear hF ho hO hA hB hT hP HF0
 have HZ := lain3 w (gc P Q G H a n cap) (tkc ba no ca X bb no cb Y Z bp np cp) (dvc bρ nρ cρ bR nR cR bS nS cS bT no cT bD nD cD) 25 41 31
 have HG0 := fun w' ho => (HZ.then (W' := w') ho).row 0 (by simp)
 have HT0 := fun w' ho => (HZ.then (W' := w') ho).row 1 (by simp)
 have HD0 := fun w' ho => (HZ.then (W' := w') ho).row 2 (by simp)
 have HW0 := hid HZ.old
 clear HZ
 go_enter func25, ntmps25
 go_upto_region 1 with fail
 generalize (((w.alloc (.cells (gc P Q G H a n cap) 25)).alloc (.cells (tkc ba no ca X bb no cb Y Z bp np cp) 41)).alloc (.cells (dvc bρ nρ cρ bR nR cR bS nS cS bT no cT bD nD cD) 31)) = W at *
 have HG := hid HG0
 have HTk := hid HT0
 have HDr := hid HD0
 clear HG0 HT0 HD0
 obtain ⟨gb, hgb⟩ : ∃ gb, gb = w.heap.size := ⟨_, rfl⟩
 rw [<- hgb] at HG HTk HDr
 rw [<- hgb]
 clear hgb
 have HTc : Hid (∀ wx, Old W wx -> wx.cell? ⟨gb + 1, 0, none⟩ = some (.slice ba no ca) /\ wx.cell? ⟨gb + 1, 1, none⟩ = some (.int .u64 X) /\ wx.cell? ⟨gb + 1, 2, none⟩ = some (.slice bb no cb) /\ wx.cell? ⟨gb + 1, 3, none⟩ = some (.int .u64 Y) /\ wx.cell? ⟨gb + 1, 4, none⟩ = some (.int .u64 Z) /\ wx.cell? ⟨gb + 1, 5, none⟩ = some (.slice bp np cp)) := fun wx hx => ⟨Y0 (HTk.out _ hx), Y1 (HTk.out _ hx), Y2 (HTk.out _ hx), Y3 (HTk.out _ hx), Y4 (HTk.out _ hx), Y5 (HTk.out _ hx)⟩
 have HGc : Hid (∀ wx, Old W wx -> G5 wx (gb) P Q G H (.slice a n cap)) := fun wx hx => g5 (HG.out _ hx)
 have HDc := hid fun wx (hx : Old W wx) => Y3 (HDr.out _ hx)
 go_upto_region 4 with (go_at_call 56; refine (HOr.out _ HW0.out).mono ?_; rintro e w1 ⟨rfl, o1⟩; obtain ⟨k0, k1, k2, k3, k4, k5⟩ := HTc.out _ o1; have k6 := HDc.out _ o1)
 have HO1 := hid o1
 clear k0 k1 k2 k3 k4 k5 k6 o1 HOr
 obtain ⟨k0, k1, k2, k3, k4, k5⟩ := HTc.out _ HO1.out
 obtain ⟨g0, g1, g2, g3, g4⟩ := HGc.out _ HO1.out
 go_upto_region 5 with (go_at_call 67; refine (HBg.out _ (HW0.out.trans HO1.out)).mono ?_; rintro e w2 ⟨rfl, o2⟩)
 have HO2 : Hid (Old W (w2.alloc (.cells #[.int .u64 (F 0)] 22))) := (HO1.out.trans o2).alloc _
 have HN2 := hid (zbG w2 W.heap.size 1 [.int .u64 (F 0)] F (HO1.out.trans o2).size (by omega) rfl)
 clear k0 k1 k2 k3 k4 k5 g0 g1 g2 g3 g4 o2 HO1 HBg
 generalize w2.alloc (.cells #[.int .u64 (F 0)] 22) = w3 at *
 go_upto_region 6 with fail
 go_loopw [10, 11] (fun v iv wx => ∃ p : Nat, iv = .int .i64 (p : Int) /\ 1 <= p /\ p <= no /\ Hid (Nums wx W.heap.size v p F) /\ Hid (Old W wx)) (fun _ iv _ => no - (intOf iv).toNat)
 case atStart => exact ⟨1, rfl, Nat.le_refl _, h1, HN2, HO2⟩
 case round =>
  obtain ⟨p, rfl, hp1, hp, HN, HO⟩ := hrel
  by_cases hlt : p < no
  ·obtain ⟨i, hpi⟩ : ∃ i, p = i + 1 := ⟨p - 1, by omega⟩
   have HSub := hid (sub_one8 p i hpi (by omega))
   have HFp : Hid (F p = mulI (expI P Q (F i) (facI Q X Y Z (O p + 1))) (expI P Q H (T p)) P) := by unfold Hid; rw [hpi]; exact HFs.out i
   have hip : i < p := by omega
   clear hpi
   obtain ⟨lb, lc, cur, hv, _, _, _, hrow, hcur⟩ := HN.out.rows.cells hp1
   have HL : Hid (∀ wx, Old wr wx -> wx.cell? ⟨lb, 0 + i, none⟩ = some (.int .u64 (F i))) := fun wx hx => by rw [Nat.zero_add]; exact hx.cellOf (by rw [cell_of_row _ _ i _ _ (0, 0) hrow, hcur i (by omega)])
   clear hrow hcur
   subst hv
   rcases HIT.out with h0 | ⟨bx, ox, hqx, _, hrx⟩
   ·omega
   have HC := hid fun wx (hx : Old wr wx) => ((HW0.out.trans HO.out).trans hx).cellOf (hrx p hlt).1
   have HTp := hid ((hrx p hlt).2)
   clear hrx
   subst hqx
   have HGr := hid fun wx (hx : Old wr wx) => HG.out _ (HO.out.trans hx)
   have HTr := hid fun wx (hx : Old wr wx) => HTk.out _ (HO.out.trans hx)
   have HDe := hid fun wx (hx : Old wr wx) => HDd.out wx p ((HW0.out.trans HO.out).trans hx) hlt
   have HFi := hid (HFu.out i)
   go_upto_region 8 with fail
   refine zaa 13 [.k (gv P Q G H a n cap), .k (.slice (some ⟨lb, 0, none⟩) p lc), .k (.int .i64 (p : Int)), .k (.int .i64 (i : Int)), .k (.pointer (some ⟨lb, 0 + i, none⟩)), .k (.int .u64 (F i)), .k (gv P Q G H a n cap), .k (.slice bo no co), .k (tk ba no ca X bb no cb Y Z bp np cp), .k (.int .i64 (p : Int)), .k (.int .u64 (facI Q X Y Z (O p + 1))), .k (.int .u64 (expI P Q (F i) (facI Q X Y Z (O p + 1)))), .k (.int .u64 (expI P Q (F i) (facI Q X Y Z (O p + 1))))] (Old wr) (by kernel_rfl) (by kernel_rfl) rfl ((Old.refl _).drew) ?st ?_
   case st =>
    refine .c (sts U25 HGr.out) <| .p <| .p <| .c (stv HSub.out) <| .c (sti (n := p) (c := lc) hip U29) <| .c (stl U22 HL.out) <| .c (sts U25 HGr.out) <| .p <| .c (sts U41 HTr.out) <| .p <| .c (stK old_R func69 (fun wx hx => HDe.out wx hx)) <| .c (stK old_R func68 (fun wx _ => za6 P Q G H a n cap _ _ h4 HFi.out (u64_fac _ _ _ _ _) wx)) <| .c stp .n
   intro t wx hR hk
   simp only [fill, Ent.val, zs0, zs1, zd1, zd0, zdn]
   go_upto_region 9 with fail
   have HOx := hid (HO.out.trans hR)
   have HNx := hid (HN.out.old hR)
   have HGx := hid fun wy (hx : Old wx wy) => HG.out _ (HOx.out.trans hx)
   have HDx := hid fun wy (hx : Old wx wy) => HDr.out _ (HOx.out.trans hx)
   have HCx := hid fun wy (hx : Old wx wy) => HC.out _ (hR.trans hx)
   clear hR hk HGr HTr HDe HC HL HN HO
   have HMu : Hid (∀ wy, Calls prog 70 #[.int .u64 (expI P Q (F i) (facI Q X Y Z (O p + 1))), .int .u64 (expI P Q H (T p)), .int .u64 P] wy (Ret wy (.int .u64 (F p)))) := fun wy => by rw [HFp.out]; exact zaO _ _ P (zaz _ _ _ _) (zaz _ _ _ _) wy
   refine zaa 15 [.k (.slice (some ⟨lb, 0, none⟩) p lc), .k (.int .u64 (expI P Q (F i) (facI Q X Y Z (O p + 1)))), .k (gv P Q G H a n cap), .k (.pointer (some ⟨gb, 3, none⟩)), .k (.int .u64 H), .k (.pointer (some ⟨gb + 1 + 1, 3, none⟩)), .k (.slice (some ⟨bx, ox, none⟩) no cT), .k (.int .i64 (p : Int)), .k (.pointer (some ⟨bx, ox + p, none⟩)), .k (.int .u64 (T p)), .k (.int .u64 (expI P Q H (T p))), .k (.pointer (some ⟨gb, 0, none⟩)), .k (.int .u64 P), .k (.int .u64 (F p)), blkE 1 #[.int .u64 (F p)] 22] (Old wx) (by kernel_rfl) (by kernel_rfl) rfl ((Old.refl _).drew) ?st ?_
   case st =>
    refine .p <| .p <| .c (sts U25 HGx.out) <| .p <| .c (stf 3 U22 HGx.out) <| .p <| .c (stf 3 U29 HDx.out) <| .p <| .c (sti (n := no) (c := cT) hlt U29) <| .c (stl U22 HCx.out) <| .c (stK old_R func68 (fun wy _ => za6 P Q G H a n cap H _ h4 ⟨h4.h0, h4.h1⟩ HTp.out wy)) <| .p <| .c (stf 0 U22 HGx.out) <| .c (stK old_R func70 (fun wy _ => HMu.out wy)) <| .c (stm (ob := fun t => .cells #[.int .u64 (F p)] 22) (v := fun s => .slice (some ⟨s, 0, none⟩) 1 1) old_R fun t wx hR hd => ⟨_, rfl, heap_alloc_last _ _⟩) .n
   intro t_1 wz hR2 hk2
   simp only [fill, Ent.val, blkE, zs0, zs1, zd1, zd0, zdn]
   obtain ⟨bs, ebs, hbs⟩ : ∃ b, t_1 14 = .slice (some ⟨b, 0, none⟩) 1 1 /\ wz.heap[b]? = some (.cells #[.int .u64 (F p)] 22 (0, 0)) := hk2 14 (by omega)
   rw [ebs]
   have HNz := hid (HNx.out.old hR2)
   have HOz := hid (HOx.out.trans hR2)
   have HSz := hid HOz.out.size
   clear hk2 hR2 HGx HDx HCx HMu HNx HOx HSub
   go_wp2_with (at_builtin; refine wpList_append_lies _ rfl _ _ 29 rfl W.heap.size 22 i0 (.int .u64 0) 1 8 U29 hi0 hz0 hz1 hz2 rfl (by decide) _ _ _ rfl HNz.out ⟨bs, 0, none⟩ 1 1 [.int .u64 (F p)] rfl rfl ?c1 ?c2 (by decide) ?c3 ?c4 HSz.out _ rfl ?_)
   case c1 => exact za5 hbs
   case c2 => intro u hu; simp at hu; rcases hu with rfl; rfl
   case c3 => unfold maxLen; omega
   case c4 => omega
   intro g9 cap9 w9 hown9 hgrow9 hat9 _
   have HN9 := hid (Nums.app hown9 rfl)
   have HO9 := hid (HOz.out.grown hgrow9 fun q hq => (World.ownsRow.lt HNz.out q hq).1)
   clear hown9 hgrow9 hat9 HNz HOz hbs ebs HSz
   go_wp2
   go_roundw
   case rel => exact ⟨p + 1, zab p, by omega, by omega, HN9, HO9⟩
   case measure => simp [intOf]; omega
  ·have he : no = p := by omega
   subst he
   go_wp2_with fail
   go_ret
   exact ⟨HW0.out.trans HO.out, _, rfl, HN.out.mono HW0.out.size⟩
def GivR (w : World) (ok : Bool) (m : Nat) (C : NN) (r : Ending) (w' : World) : Prop := Old w w' /\ ∃ a c, r = .returned (.tuple #[.slice a (if ok then m else 0) c, .bool ok]) /\ BoxF w' a (if ok then m else 0) C
theorem zeJ {w w' : World} {ok : Bool} {m : Nat} {C : NN} (hok : ok = false) (ho : Old w w') : GivR w ok m C (.returned (.tuple #[.slice none 0 0, .bool false])) w' := by
 subst hok
 exact ⟨ho, none, 0, rfl, Or.inl rfl⟩
theorem zdO {P Q y : Int} {m : Nat} {C : NN} {no : Nat} {O : NI} {nρ : Nat} : mixB P Q y m C no O nρ = true ↔ batB P Q m C = true /\ inI P Q y = true /\ ordR no O = true /\ no = m /\ nρ = m := by
 unfold mixB ordR
 simp only [Bool.and_eq_true_iff, decide_eq_true_eq]
 constructor
 ·rintro ⟨h1, h2, h3, h4, h5⟩
  have := (zaM.1 h4).1
  exact ⟨h4, h5, ⟨by omega, h3⟩, h1, h2⟩
 ·rintro ⟨h4, h5, ⟨_, h3⟩, h1, h2⟩
  exact ⟨h1, h2, h3, h4, h5⟩
theorem info_pair8r : (prog.info? 69).map (·.size) = some 2 := by kernel_rfl
theorem pair_load8 (w : World) (b off : Nat) (u v : Int) (h0 : w.cell? ⟨b, off, none⟩ = some (.int .u64 u)) (h1 : w.cell? ⟨b, off + 1, none⟩ = some (.int .u64 v)) : (loadVar 69 ⟨b, off, none⟩).run prog w = .ok (pv u v) w :=
 zbM w b off _ #[.int .u64 u, .int .u64 v] _ (fun j v hv => by
  match j, (show j < 2 from (Array.getElem?_eq_some_iff.1 hv).1) with
  | 0, _ => exact h0.trans hv
  | 1, _ => exact h1.trans hv) U69 rfl info_pair8r
theorem boxinfo9 : (prog.info? 74).map (fun i => (i.zero, i.size, i.bytes)) = some (some (.agg #[.int .u64 0, .int .u64 0, .int .u64 0, .int .u64 0, .int .u64 0, .int .u64 0]), 6, 48) := by kernel_rfl
def mxV (k : Nat) (M C : NI) : Nat -> Value := fun q => .int .u64 (if q < k then M q else C q)
theorem mxV_row (w : World) (M C : NI) : FulV (w.alloc (.cells (bx6a C) 74)) w.heap.size 6 74 (mxV 0 M C) := by
 unfold FulV
 rw [heap_alloc_last]
 rfl
theorem mxV_next {w : World} {b k : Nat} {M C : NI} {x z : Int} (h : FulV w b 6 74 (mxV k M C)) (hx : M k = x) (hz : M (k + 1) = z) : FulV ((w.setCell ⟨b, k, none⟩ (.int .u64 x)).setCell ⟨b, k + 1, none⟩ (.int .u64 z)) b 6 74 (mxV (k + 2) M C) :=
 ((h.set k (.int .u64 x)).set (k + 1) (.int .u64 z)).congr fun q hq => by
  unfold mxV
  by_cases h1 : q = k + 1
  ·rw [if_pos h1, if_pos (by omega), h1, hz]
  ·rw [if_neg h1]
   by_cases h2 : q = k
   ·rw [if_pos h2, if_pos (by omega), h2, hx]
   ·rw [if_neg h2]
    by_cases h3 : q < k
    ·rw [if_pos h3, if_pos (by omega)]
    ·rw [if_neg h3, if_neg (by omega)]
theorem saj0 {P : Program} {ops : List Oper} {L0 : List Value} {E : List Ent} {R : World -> Prop} {dst : Option Tmp} {ty : TypeId} {pos : String} {after : Array Edge} {guard : Option (Nat × Bool)} {T e : TypeId} {x ix : Operand} {b n k : Nat} (sz : Nat) (hi : k < n) (hu : P.underlying T = some (.array n e)) (hs : (P.info? e).map (·.size) = some sz := by kernel_rfl) (hg : zao E ⟨dst, .indexAddr T x ix, ty, pos, after, guard⟩ = some true := by rfl) (hx : ∀ t, Act.eval ⟨(fill ops E t 0 L0).toArray, []⟩ x = .pointer (some ⟨b, 0, none⟩) := by intro _; kernel_rfl) (hix : ∀ t, Act.eval ⟨(fill ops E t 0 L0).toArray, []⟩ ix = .int .i64 (k : Int) := by intro _; kernel_rfl) : StepT P ops L0 E R ⟨dst, .indexAddr T x ix, ty, pos, after, guard⟩ (.k (.pointer (some ⟨b, k * sz, none⟩))) := by
 have h := saj (P := P) (ops := ops) (L0 := L0) (E := E) (R := R) (off := 0) (i := k) sz hi hu hs hg hx hix
 rwa [Nat.zero_add] at h
theorem rmix8_any (P Q G H : Int) (a : OA) (n cap : Nat) (y : Int) (bi : OA) (m ci : Nat) (C : NN) (bo : OA) (no co : Nat) (O : NI) (bρ : OA) (nρ cρ : Nat) (R : NN) (w : World) (h4 : Four P Q G H) (hr : Righ P Q G) (hy : U64 y) (mm : m <= 80) (mo : no <= 80) (mρ : nρ <= 80) (hC : BoxsIn w bi m C) (hO : IntsIn w bo no O) (hR : RhoIn w bρ nρ R) :
  Calls prog 16 #[gv P Q G H a n cap, .int .u64 y, .slice bi m ci, .slice bo no co, .slice bρ nρ cρ] w (GivR w (mixB P Q y m C no O nρ) m (mixC P Q G y C O R)) := by
 have HBa := hid fun wx (ho : Old w wx) => zcP P Q G H a n cap bi m ci C wx h4 (by omega) (hC.old ho)
 have HIn : Hid (∀ wx, Calls prog 55 #[gv P Q G H a n cap, .int .u64 y] wx (Ret wx (.bool (inI P Q y)))) := fun wx => zdu P Q G H y a n cap wx h4.q0 h4.q1 hy.2
 have HOr := hid fun wx (ho : Old w wx) => zbx bo no co O wx (by omega) (hO.old ho)
 have HZ := lain1 w (gc P Q G H a n cap) 25
 have HG0 := fun w' ho => (HZ.then (W' := w') ho).row 0 (by simp)
 have HW0 := hid HZ.old
 clear HZ
 by_cases hok : mixB P Q y m C no O nρ = true
 rotate_left
 ·have HN : Hid (mixB P Q y m C no O nρ = false) := by unfold Hid; simpa using hok
  have hno : ¬ (batB P Q m C = true /\ inI P Q y = true /\ ordR no O = true /\ no = m /\ nρ = m) := fun h => hok (zdO.2 h)
  clear hok h4 hr hC hO hR
  generalize mixB P Q y m C no O nρ = mb at *
  generalize mixC P Q G y C O R = M at *
  go_enter func16, ntmps16
  go_upto_region 1 with fail
  generalize w.alloc (.cells (gc P Q G H a n cap) 25) = W at *
  obtain ⟨gb, hgb⟩ : ∃ gb, gb = w.heap.size := ⟨_, rfl⟩
  have HG : Hid (∀ wx, Old W wx -> wx.heap[gb]? = some (.cells (gc P Q G H a n cap) 25 (0, 0))) := by rw [hgb]; exact HG0
  rw [<- hgb]
  clear hgb HG0
  have HGc : Hid (∀ wx, Old W wx -> G5 wx (gb) P Q G H (.slice a n cap)) := fun wx ho => g5 (HG.out _ ho)
  obtain ⟨d0, d1, d2, d3, d4⟩ := HGc.out _ (Old.refl _)
  cases hb : batB P Q m C with
  | false =>
   rw [hb] at HBa
   clear hb hno
   go_wp2_with (go_at_call 54; refine (HBa.out _ HW0.out).mono ?_; rintro e w1 ⟨rfl, o1⟩)
   go_ret2
   exact zeJ HN.out (HW0.out.trans o1)
  | true =>
   rw [hb] at HBa hno
   cases hi : inI P Q y with
   | false =>
    rw [hi] at HIn
    clear hb hno hi
    go_wp2_with (first
     | (go_at_call 54; refine (HBa.out _ HW0.out).mono ?_; rintro e w1 ⟨rfl, o1⟩; obtain ⟨d0, d1, d2, d3, d4⟩ := HGc.out _ o1)
     | (go_at_call 55; refine (HIn.out _).mono ?_; rintro e w2 ⟨rfl, o2⟩))
    go_ret2
    exact zeJ HN.out ((HW0.out.trans o1).trans o2)
   | true =>
    rw [hi] at HIn hno
    cases ho : ordR no O with
    | false =>
     rw [ho] at HOr
     clear hb hno hi ho
     go_wp2_with (first
      | (go_at_call 54; refine (HBa.out _ HW0.out).mono ?_; rintro e w1 ⟨rfl, o1⟩; obtain ⟨d0, d1, d2, d3, d4⟩ := HGc.out _ o1)
      | (go_at_call 55; refine (HIn.out _).mono ?_; rintro e w2 ⟨rfl, o2⟩)
      | (go_at_call 56; refine (HOr.out _ ((HW0.out.trans o1).trans o2)).mono ?_; rintro e w3 ⟨rfl, o3⟩))
     go_ret2
     exact zeJ HN.out (((HW0.out.trans o1).trans o2).trans o3)
    | true =>
     rw [ho] at HOr hno
     by_cases h1 : no = m
     ·have h2 : ¬ nρ = m := fun h => hno ⟨rfl, rfl, rfl, h1, h⟩
      have k0 : ((no : Int) != (m : Int)) = false := by simp; omega
      have k1 : ((nρ : Int) != (m : Int)) = true := by simp; omega
      have k2 : ¬ (nρ : Int) = (m : Int) := by omega
      have k3 : (no : Int) = (m : Int) := by omega
      clear hb hno hi ho h1 h2
      go_wp2_with (first
       | (go_at_call 54; refine (HBa.out _ HW0.out).mono ?_; rintro e w1 ⟨rfl, o1⟩; obtain ⟨d0, d1, d2, d3, d4⟩ := HGc.out _ o1)
       | (go_at_call 55; refine (HIn.out _).mono ?_; rintro e w2 ⟨rfl, o2⟩)
       | (go_at_call 56; refine (HOr.out _ ((HW0.out.trans o1).trans o2)).mono ?_; rintro e w3 ⟨rfl, o3⟩))
      go_ret2
      exact zeJ HN.out (((HW0.out.trans o1).trans o2).trans o3)
     ·have k1 : ((no : Int) != (m : Int)) = true := by simp; omega
      have k2 : ¬ (no : Int) = (m : Int) := by omega
      clear hb hno hi ho h1
      go_wp2_with (first
       | (go_at_call 54; refine (HBa.out _ HW0.out).mono ?_; rintro e w1 ⟨rfl, o1⟩; obtain ⟨d0, d1, d2, d3, d4⟩ := HGc.out _ o1)
       | (go_at_call 55; refine (HIn.out _).mono ?_; rintro e w2 ⟨rfl, o2⟩)
       | (go_at_call 56; refine (HOr.out _ ((HW0.out.trans o1).trans o2)).mono ?_; rintro e w3 ⟨rfl, o3⟩))
      go_ret2
      exact zeJ HN.out (((HW0.out.trans o1).trans o2).trans o3)
 obtain ⟨hba, hin, hord, e1, e2⟩ := zdO.1 hok
 rw [hba] at HBa
 rw [hin] at HIn
 rw [hord] at HOr
 rw [hok]
 have e1' : m = no := e1.symm
 subst e1'
 have e2' : m = nρ := e2.symm
 subst e2'
 clear e1 e2 hok
 have HX := hid hO
 have HCx := hid hC
 have HRx := hid hR
 have HPo := hid (zaA.1 (by have := hord; unfold ordR at this; exact (Bool.and_eq_true_iff.1 this).2))
 have h8 : m <= 8 := (zaM.1 hba).1.2
 have H4 := hid h4
 have HRi := hid hr
 obtain ⟨D, hD⟩ : ∃ D : Nat -> Nat -> Int, D = mixC P Q G y C O R := ⟨_, rfl⟩
 have HDe := hid hD
 rw [<- hD]
 clear hD hC hO hR h4 hr hba hin hord
 obtain ⟨i0, hi0, hz⟩ := Option.map_eq_some_iff.1 boxinfo9
 simp only [Prod.mk.injEq] at hz
 obtain ⟨hz0, hz1, hz2⟩ := hz
 have HI0 : Hid (prog.info? 74 = some i0 /\ i0.zero = some (.agg #[.int .u64 0, .int .u64 0, .int .u64 0, .int .u64 0, .int .u64 0, .int .u64 0]) /\ i0.size = 6 /\ i0.bytes = 48) := ⟨hi0, hz0, hz1, hz2⟩
 clear hi0 hz0 hz1 hz2
 go_enter func16, ntmps16
 go_upto_region 1 with fail
 generalize w.alloc (.cells (gc P Q G H a n cap) 25) = W at *
 obtain ⟨gb, hgb⟩ : ∃ gb, gb = w.heap.size := ⟨_, rfl⟩
 have HG : Hid (∀ wx, Old W wx -> wx.heap[gb]? = some (.cells (gc P Q G H a n cap) 25 (0, 0))) := by rw [hgb]; exact HG0
 rw [<- hgb]
 clear hgb HG0
 have HGc : Hid (∀ wx, Old W wx -> G5 wx (gb) P Q G H (.slice a n cap)) := fun wx ho => g5 (HG.out _ ho)
 obtain ⟨d0, d1, d2, d3, d4⟩ := HGc.out _ (Old.refl _)
 go_upto_region 5 with (first
  | (go_at_call 54; refine (HBa.out _ HW0.out).mono ?_; rintro e w1 ⟨rfl, o1⟩; obtain ⟨d0, d1, d2, d3, d4⟩ := HGc.out _ o1)
  | (go_at_call 55; refine (HIn.out _).mono ?_; rintro e w2 ⟨rfl, o2⟩)
  | (go_at_call 56; refine (HOr.out _ ((HW0.out.trans o1).trans o2)).mono ?_; rintro e w3 ⟨rfl, o3⟩))
 have HO3 := hid ((o1.trans o2).trans o3)
 clear o1 o2 o3 d0 d1 d2 d3 d4 HBa HIn HOr HGc
 go_loopw [12, 13] (fun v iv wx => ∃ i : Nat, iv = .int .i64 (i : Int) /\ i <= m /\ Hid (RowsN wx W.heap.size 74 6 v i (bxL D)) /\ Hid (Old W wx)) (fun _ iv _ => m - (intOf iv).toNat)
 case atStart => exact ⟨0, rfl, Nat.zero_le _, rowsN_nil _ _ _ _ _, HO3⟩
 case round =>
  obtain ⟨i, rfl, hi, HN, HO⟩ := hrel
  by_cases hlt : i < m
  ·rcases HX.out with h0 | ⟨bx, ox, hqx, _, hrx⟩
   ·omega
   have cx := (HW0.out.trans HO.out).cellOf (hrx i hlt).1
   have hp := HPo.out.2.1 i hlt
   obtain ⟨p, hpe⟩ : ∃ p : Nat, O i = (p : Int) := ⟨(O i).toNat, by omega⟩
   have HPe : Hid ((O i).toNat = p) := by unfold Hid; omega
   rw [hpe] at cx hp
   have hpn : p < m := by omega
   clear hpe hp hrx
   subst hqx
   rcases HCx.out with h0 | ⟨bc, oc, hqc, _, hrc⟩
   ·omega
   have hcc : ∀ k, k < 6 -> wr.cell? ⟨bc, oc + p * 6 + k, none⟩ = some (.int .u64 (C p k)) /\ U64 (C p k) := fun k hk => ⟨(HW0.out.trans HO.out).cellOf (hrc p hpn k hk).1, (hrc p hpn k hk).2⟩
   have c0 : wr.cell? ⟨bc, oc + p * 6, none⟩ = some (.int .u64 (C p 0)) := (hcc 0 (by omega)).1
   have c1 := (hcc 1 (by omega)).1
   have c2 := (hcc 2 (by omega)).1
   have c3 := (hcc 3 (by omega)).1
   have c4 := (hcc 4 (by omega)).1
   have c5 := (hcc 5 (by omega)).1
   have HCu := hid fun k (hk : k < 6) => (hcc k hk).2
   clear hrc hcc
   subst hqc
   have HB0 : Hid (FulV (wr.alloc (.cells (bx6a (C p)) 74)) wr.heap.size 6 74 (mxV 0 (D i) (C p))) := mxV_row _ _ _
   have HO1 : Hid (Old wr (wr.alloc (.cells (bx6a (C p)) 74))) := (Old.refl _).alloc _
   have HSz := hid HO.out.size
   go_upto_region 9 with fail
   clear c0 c1 c2 c3 c4 c5 cx
   obtain ⟨nb, hnb⟩ : ∃ nb, nb = wr.heap.size := ⟨_, rfl⟩
   rw [<- hnb] at HB0
   rw [<- hnb]
   have Hnb : Hid (wr.heap.size <= nb) := by unfold Hid; omega
   clear hnb
   obtain ⟨w5, hw5⟩ : ∃ w5, w5 = wr.alloc (.cells (bx6a (C p)) 74) := ⟨_, rfl⟩
   rw [<- hw5] at HB0 HO1
   try rw [<- hw5]
   clear hw5
   go_loopw [15] (fun kv wx => ∃ k : Nat, kv = .int .i64 (k : Int) /\ k <= 3 /\ Hid (FulV wx nb 6 74 (mxV (k * 2) (D i) (C p))) /\ Hid (Old wr wx)) (fun kv _ => 3 - (intOf kv).toNat)
   case atStart => exact ⟨0, rfl, Nat.zero_le _, by rw [Nat.zero_mul]; exact HB0, HO1⟩
   case round =>
    obtain ⟨k, rfl, hk, HB, HO2⟩ := hrel
    by_cases hkl : k < 3
    ·have k3 : (k : Int) < 3 := by omega
     rcases HRx.out with h0 | ⟨by_, oy, hqy, _, hry⟩
     ·omega
     have HRu := hid ((hry i hlt k hkl).2)
     have HRc := hid fun wx (hx : Old wr wx) => (((HW0.out.trans HO.out).trans HO2.out).trans hx).cellOf (hry i hlt k hkl).1
     clear hry
     subst hqy
     have HPl : Hid (∀ wx, Old wr wx -> (loadVar 69 ⟨nb, k * 2, none⟩).run prog wx = .ok (pv (C p (2 * k)) (C p (2 * k + 1))) wx) := fun wx ho => by
      have hb := HB.out.old ho
      refine pair_load8 wx nb _ _ _ ?_ ?_
      ·rw [hb.cell (k * 2) (by omega)]; unfold mxV; rw [if_neg (by omega), show k * 2 = 2 * k by omega]
      ·rw [hb.cell (k * 2 + 1) (by omega)]; unfold mxV; rw [if_neg (by omega), show k * 2 + 1 = 2 * k + 1 by omega]
     have HDu : Hid (D i (2 * k) = mulI (C p (2 * k)) (expI P Q G (R i k)) P) := by
      unfold Hid; rw [HDe.out]; unfold mixC; rw [if_pos (by omega), HPe.out, show 2 * k / 2 = k by omega]
     have HDv : Hid (D i (2 * k + 1) = mulI (C p (2 * k + 1)) (expI P Q y (R i k)) P) := by
      unfold Hid; rw [HDe.out]; unfold mixC; rw [if_neg (by omega), HPe.out, show (2 * k + 1) / 2 = k by omega]
     have HCv : Hid (U64 (C p (2 * k)) /\ U64 (C p (2 * k + 1))) := ⟨HCu.out _ (by omega), HCu.out _ (by omega)⟩
     have HAg : Hid (∀ wx, Calls prog 57 #[gv P Q G H a n cap, .int .u64 y, pv (C p (2 * k)) (C p (2 * k + 1)), .int .u64 (R i k)] wx (Ret wx (pv (D i (2 * k)) (D i (2 * k + 1))))) := fun wx => by rw [HDu.out, HDv.out]; exact ragain_any P Q G H a n cap y _ _ _ wx H4.out HRi.out hy HCv.out.1 HCv.out.2 HRu.out
     have HGr := hid fun wx (ho : Old wr wx) => HG.out wx ((HO.out.trans HO2.out).trans ho)
     go_upto_region 11 with fail
     refine zaa 14 [.k (.int .i64 (k : Int)), .k (gv P Q G H a n cap), .k (.int .u64 y), .k (.int .i64 (k : Int)), .k (.pointer (some ⟨nb, k * 2, none⟩)), .k (pv (C p (2 * k)) (C p (2 * k + 1))), .k (.slice (some ⟨by_, oy, none⟩) m cρ), .k (.int .i64 (i : Int)), .k (.int .i64 (k : Int)), .k (.pointer (some ⟨by_, oy + i * 3, none⟩)), .k (.pointer (some ⟨by_, oy + i * 3 + k, none⟩)), .k (.int .u64 (R i k)), .k (pv (D i (2 * k)) (D i (2 * k + 1))), .k (.pointer (some ⟨nb, k * 2, none⟩))] (Old wr) (by kernel_rfl) (by kernel_rfl) rfl ((Old.refl _).drew) ?st ?_
     case st =>
      refine .p <| .c (sts U25 HGr.out) <| .p <| .p <| .c (saj0 2 hkl U74) <| .c (stlv HPl.out) <| .p <| .p <| .p <| .c (stj (n := m) (c := cρ) 3 hlt U28) <| .c (sai hkl U63) <| .c (stl U22 HRc.out) <| .c (stK old_R func57 (fun wy _ => HAg.out wy)) <| .c (saj0 2 hkl U74) .n
     intro t wz hR2 hk2
     simp only [fill, Ent.val, zs0, zs1, zd1, zd0, zdn]
     have HBz := HB.out.old hR2
     have HB3 : Hid (FulV ((wz.setCell ⟨nb, k * 2, none⟩ (.int .u64 (D i (2 * k)))).setCell ⟨nb, k * 2 + 1, none⟩ (.int .u64 (D i (2 * k + 1)))) nb 6 74 (mxV ((k + 1) * 2) (D i) (C p))) := by
      have h := mxV_next HBz (x := D i (2 * k)) (z := D i (2 * k + 1)) (by rw [show k * 2 = 2 * k by omega]) (by rw [show k * 2 + 1 = 2 * k + 1 by omega])
      rwa [show k * 2 + 2 = (k + 1) * 2 by omega] at h
     have HO3' : Hid (Old _ ((wz.setCell ⟨nb, k * 2, none⟩ (.int .u64 (D i (2 * k)))).setCell ⟨nb, k * 2 + 1, none⟩ (.int .u64 (D i (2 * k + 1))))) := ((HO2.out.trans hR2).setCell (p := ⟨nb, k * 2, none⟩) Hnb.out _).setCell (p := ⟨nb, k * 2 + 1, none⟩) Hnb.out _
     have q0 := HBz.cell (k * 2) (by omega)
     have q1 := HBz.cell (k * 2 + 1) (by omega)
     have f0 := HBz.free (k * 2)
     have f1 := HBz.free (k * 2 + 1)
     unfold mxV at q0 q1
     clear hR2 hk2 HBz HRc HPl HAg HGr
     generalize D i (2 * k) = du at *
     generalize D i (2 * k + 1) = dv8 at *
     go_wp2_with fail
     go_roundw
     case rel => exact ⟨k + 1, zab k, by omega, HB3, HO3'⟩
     case measure => simp [intOf]; omega
    ·have hk3 : k = 3 := by omega
     subst hk3
     have HB6 := hid HB.out
     obtain ⟨m0, m1, m2, m3, m4, m5⟩ := g6 HB6.out
     have hwv : W.heap.size <= wr.heap.size := (HO.out.trans HO2.out).size
     have HNv := HN.out.old HO2.out
     have HOv := hid (HO.out.trans HO2.out)
     have HNews := hid (box_news D i)
     obtain ⟨hi0, hz0, hz1, hz2⟩ := HI0.out
     clear HB HO2 HB0 HO1 HB6
     generalize D i 0 = x0 at *
     generalize D i 1 = x1 at *
     generalize D i 2 = x2 at *
     generalize D i 3 = x3 at *
     generalize D i 4 = x4 at *
     generalize D i 5 = x5 at *
     go_wp2_with (at_builtin; refine wpList_append_lies _ rfl _ _ 26 rfl W.heap.size 74 i0 (.agg #[.int .u64 0, .int .u64 0, .int .u64 0, .int .u64 0, .int .u64 0, .int .u64 0]) 6 48 U26 hi0 hz0 hz1 hz2 rfl (by decide) _ _ _ rfl (World.ownsRow.alloc HNv _) ⟨wr.heap.size, 0, none⟩ 1 1 [.int .u64 x0, .int .u64 x1, .int .u64 x2, .int .u64 x3, .int .u64 x4, .int .u64 x5] rfl rfl ?c1 ?c2 (by decide) ?c3 ?c4 ?c5 _ rfl ?_)
     case c1 => exact zdt wr _ _
     case c2 => intro u hu; simp at hu; rcases hu with rfl | rfl | rfl | rfl | rfl | rfl <;> rfl
     case c3 => unfold maxLen; omega
     case c4 => omega
     case c5 => simp; omega
     intro g5 cap5 w9 hown9 hgrow9 hat9 _
     have HN9 := hid (RowsN.app hown9 HNews.out)
     have HO9 : Hid (Old W w9) := (HOv.out.alloc _).grown hgrow9 fun q hq => (World.ownsRow.lt HNv q hq).1
     clear hown9 hgrow9 hat9 HNews HNv m0 m1 m2 m3 m4 m5
     go_wp2
     go_roundw
     case rel => exact ⟨i + 1, zab i, by omega, HN9, HO9⟩
     case measure => simp [intOf]; omega
  ·have he : m = i := by omega
   subst he
   obtain ⟨b, c, e12, hbf⟩ := HN.out.boxF fun j k _ _ => by rw [HDe.out]; exact zdZ _ _ _ _ _ _ _ j k
   have HF := hid hbf
   rw [e12]
   clear e12 hbf
   go_wp2_with fail
   go_ret2
   exact ⟨HW0.out.trans HO.out, b, c, rfl, HF.out⟩
theorem rexp8_yes (P Q G H : Int) (a : OA) (m cap : Nat) (bo : OA) (co : Nat) (O : NI) (ba : OA) (na ca : Nat) (X : Int) (bb : OA) (nb cb : Nat) (Y Z : Int) (bp : OA) (np cp : Nat) (bρ : OA) (cρ : Nat) (Rh : NN) (bR : OA) (cR : Nat) (R : NI) (bS : OA) (cS : Nat) (S : NI) (bT : OA) (cT : Nat) (T : NI) (bD : OA) (nD cD n : Nat) (w : World) (hQ : 0 < Q) (hQu : U64 Q) (hX : U64 X) (hY : U64 Y) (hZ : U64 Z) (hor : ordR n O = true) (hO : IntsIn w bo n O) (hρ : RhoIn w bρ n Rh) (hR : FacsIn w bR n R) (hS : FacsIn w bS n S) (hT : FacsIn w bT n T) :
  Calls prog 27 #[gv P Q G H a m cap, .slice bo n co, tk ba na ca X bb nb cb Y Z bp np cp, dv bρ n cρ bR n cR bS n cS bT n cT bD nD cD] w (GivF w (7 * n + 3) (exF Q X Y Z n (fun i => (O i).toNat) R S T Rh)) := by
 have h8 : n <= 8 := (zbe.1 hor).1.2
 have h1 : 0 < n := (zbe.1 hor).1.1
 have hP : OrdP n O := zaA.1 (by have := hor; unfold ordR at this; exact (Bool.and_eq_true_iff.1 this).2)
 have HOr : Hid (∀ wx, Old w wx -> Calls prog 56 #[.slice bo n co] wx (Ret wx (.bool true))) := fun wx hx => by have h := zbx bo n co O wx (by omega) (hO.old hx); rw [hor] at h; exact h
 have HBd : Hid (∀ i, i < n -> 0 <= O i /\ O i < 1000) := fun i hi => by have := hP.2.1 i hi; omega
 obtain ⟨E, hE⟩ : ∃ E, E = exF Q X Y Z n (fun i => (O i).toNat) R S T Rh := ⟨_, rfl⟩
 obtain ⟨o, ho8⟩ : ∃ o : Nat -> Nat, o = (fun i => (O i).toNat) := ⟨_, rfl⟩
 have Hoi : Hid (∀ i, i < n -> (o i : Int) = O i) := fun i hi => by rw [ho8]; have := HBd.out i hi; show ((O i).toNat : Int) = O i; omega
 rw [<- hE]
 rw [<- ho8] at hE
 have HEa : Hid (∀ i, i < n -> E i = (O i + 1) % Q /\ E (n + i) = R i % Q /\ E (2 * n + i) = Go.Proofs.YtlnmjbbpenhdbaaGreat.bE Q X o i /\ E (3 * n + i) = S i % Q /\ E (4 * n + i) = Go.Proofs.YtlnmjbbpenhdbaaGreat.dE Q X Y Z o i /\ E (5 * n + i) = Go.Proofs.YtlnmjbbpenhdbaaGreat.uE Q Y R S i /\ (0 < i -> E (6 * n + i - 1) = T i % Q)) := fun i hi => by
  have h := exF_at (Q := Q) (X := X) (Y := Y) (Z := Z) (o := o) (R := R) (S := S) (T := T) (Rho := Rh) hi
  rw [<- hE, Hoi.out i hi] at h
  exact h
 have HEe : Hid (E (7 * n - 1) = vE Q X Y Z o R S T (n - 1) /\ ∀ w, w < 3 -> rhoE Q X o Rh w n = E (7 * n + w)) := by unfold Hid; rw [hE]; exact exF_end h1
 obtain ⟨Rr, hRr⟩ : ∃ Rr, Rr = rhoE Q X o Rh := ⟨_, rfl⟩
 have HRz : Hid (∀ w, Rr w 0 = 0) := fun w => by rw [hRr]; rfl
 have HRn : Hid (∀ w i, Rr w (i + 1) = subI (Rr w i) (mulI (Go.Proofs.YtlnmjbbpenhdbaaGreat.bE Q X o i) (Rh i w) Q) Q) := fun w i => by rw [hRr]; rfl
 have HRu : Hid (∀ w i, U64 (Rr w i)) := fun w i => by
  rw [hRr]
  cases i with
  | zero => exact ⟨by show (0 : Int) <= 0; omega, by show (0 : Int) <= _; omega⟩
  | succ i => exact zcQ _ _ _
 have HVn : Hid (∀ i, 0 < i -> Go.Proofs.YtlnmjbbpenhdbaaGreat.vP Q X Y Z o R S T (i + 1) = addI (mulI (Go.Proofs.YtlnmjbbpenhdbaaGreat.vP Q X Y Z o R S T i) (Go.Proofs.YtlnmjbbpenhdbaaGreat.dE Q X Y Z o i) Q) (T i) Q) := fun i h => vP_next h
 have HV0 : Hid (Go.Proofs.YtlnmjbbpenhdbaaGreat.vP Q X Y Z o R S T 1 = Go.Proofs.YtlnmjbbpenhdbaaGreat.uE Q Y R S 0) := rfl
 have HVe : Hid (Go.Proofs.YtlnmjbbpenhdbaaGreat.vP Q X Y Z o R S T n = E (7 * n - 1)) := by
  have h := HEe.out.1
  unfold Hid
  rw [h]
  obtain ⟨j, hj⟩ : ∃ j, n = j + 1 := ⟨n - 1, by omega⟩
  rw [hj]
  rfl
 have HVz : Hid (Go.Proofs.YtlnmjbbpenhdbaaGreat.vP Q X Y Z o R S T 0 = 0) := rfl
 have HVu : Hid (∀ i, U64 (Go.Proofs.YtlnmjbbpenhdbaaGreat.vP Q X Y Z o R S T i)) := fun i => by
  match i with
  | 0 => exact ⟨by show (0 : Int) <= 0; omega, by show (0 : Int) <= _; omega⟩
  | 1 => exact zba _ _ _
  | i + 2 => exact zba _ _ _
 have HRe3 : Hid (∀ w, w < 3 -> Rr w n = E (7 * n + w)) := by unfold Hid; rw [hRr]; exact HEe.out.2
 have HPw : Hid (∀ wx i, i < n -> Calls prog 62 #[gv P Q G H a m cap, .int .u64 X, .int .i64 (O i + 1)] wx (Ret wx (.int .u64 (Go.Proofs.YtlnmjbbpenhdbaaGreat.bE Q X o i)))) := fun wx i hi => by
  unfold Go.Proofs.YtlnmjbbpenhdbaaGreat.bE
  rw [Hoi.out i hi]
  exact zbs P Q G H a m cap X _ wx hX (by have := HBd.out i hi; omega)
 have HDd : Hid (∀ wx i, i < n -> Old w wx -> Calls prog 69 #[gv P Q G H a m cap, .slice bo n co, tk ba na ca X bb nb cb Y Z bp np cp, .int .i64 (i : Int)] wx (Ret wx (.int .u64 (Go.Proofs.YtlnmjbbpenhdbaaGreat.dE Q X Y Z o i)))) := fun wx i hi ho => by
  unfold Go.Proofs.YtlnmjbbpenhdbaaGreat.dE Go.Proofs.YtlnmjbbpenhdbaaGreat.bE
  rw [Hoi.out i hi]
  exact rd8_any P Q G H a m cap bo n co O ba na ca X bb nb cb Y Z bp np cp i wx hi hX hY hZ (hO.old ho) (HBd.out i hi)
 have HbU : Hid (∀ i, U64 (Go.Proofs.YtlnmjbbpenhdbaaGreat.bE Q X o i)) := fun i => zbi _ _ _
 have HdU : Hid (∀ i, U64 (Go.Proofs.YtlnmjbbpenhdbaaGreat.dE Q X Y Z o i)) := fun i => zcQ _ _ _
 have HuE : Hid (∀ i, Go.Proofs.YtlnmjbbpenhdbaaGreat.uE Q Y R S i = addI (mulI Y (R i) Q) (S i) Q) := fun i => rfl
 generalize Go.Proofs.YtlnmjbbpenhdbaaGreat.bE Q X o = bE at *
 generalize Go.Proofs.YtlnmjbbpenhdbaaGreat.dE Q X Y Z o = dE at *
 generalize Go.Proofs.YtlnmjbbpenhdbaaGreat.uE Q Y R S = uE at *
 generalize Go.Proofs.YtlnmjbbpenhdbaaGreat.vP Q X Y Z o R S T = vP at *
 have HRhu := hid fun j k (hj : j < n) (hk : k < 3) => hρ.u64 hj hk
 have HRru := hid hR.u64
 have HSu := hid hS.u64
 have HTu := hid hT.u64
 obtain ⟨N, hN⟩ : ∃ N, N = 7 * n + 3 := ⟨_, rfl⟩
 rw [<- hN]
 have HNN := hid hN
 have hN8 : N <= 80 := by omega
 have k1 : IntKind.i64.wrap (7 * (n : Int)) = 7 * (n : Int) := by rw [IntKind.wrap_i64]; omega
 have k2 : IntKind.i64.wrap (7 * (n : Int) + 3) = (N : Int) := by rw [IntKind.wrap_i64]; omega
 have hmk := zaP N hN8
 have HQ := hid hQ
 rcases hO with h0 | ⟨bo, oo, rfl, _, hro⟩
 ·omega
 rcases hR with h0 | ⟨rb, ro, rfl, _, hrr⟩
 ·omega
 rcases hS with h0 | ⟨sb, so, rfl, _, hrs⟩
 ·omega
 rcases hT with h0 | ⟨tb, tof, rfl, _, hrt⟩
 ·omega
 rcases hρ with h0 | ⟨hb, ho, rfl, _, hrh⟩
 ·omega
 have HO0 := hid fun wx i (hi : i < n) (ho : Old w wx) => ho.cellOf (hro i hi).1
 have HR0 := hid fun wx i (hi : i < n) (ho : Old w wx) => ho.cellOf (hrr i hi).1
 have HS0 := hid fun wx i (hi : i < n) (ho : Old w wx) => ho.cellOf (hrs i hi).1
 have HT0 := hid fun wx i (hi : i < n) (ho : Old w wx) => ho.cellOf (hrt i hi).1
 have HH0 := hid fun wx j k (hj : j < n) (hk : k < 3) (ho : Old w wx) => ho.cellOf (hrh j hj k hk).1
 clear hE ho8 hN hRr hro hrr hrs hrt hrh hP hor hQ hX hZ HEe
 have HYu := hid hY
 clear hY hQu
 have HZ := lain3 w (gc P Q G H a m cap) (tkc ba na ca X bb nb cb Y Z bp np cp) (dvc (some ⟨hb, ho, none⟩) n cρ (some ⟨rb, ro, none⟩) n cR (some ⟨sb, so, none⟩) n cS (some ⟨tb, tof, none⟩) n cT bD nD cD) 25 41 31
 have HG0 := fun w' ho => (HZ.then (W' := w') ho).row 0 (by simp)
 have HTk0 := fun w' ho => (HZ.then (W' := w') ho).row 1 (by simp)
 have HD0 := fun w' ho => (HZ.then (W' := w') ho).row 2 (by simp)
 have HW0 := hid HZ.old
 clear HZ
 go_enter func27, ntmps27
 go_upto_region 1 with fail
 generalize (((w.alloc (.cells (gc P Q G H a m cap) 25)).alloc (.cells (tkc ba na ca X bb nb cb Y Z bp np cp) 41)).alloc (.cells (dvc (some ⟨hb, ho, none⟩) n cρ (some ⟨rb, ro, none⟩) n cR (some ⟨sb, so, none⟩) n cS (some ⟨tb, tof, none⟩) n cT bD nD cD) 31)) = W at *
 have HG := hid HG0
 have HTk := hid HTk0
 have HDr := hid HD0
 clear HG0 HTk0 HD0
 obtain ⟨gb, hgb⟩ : ∃ gb, gb = w.heap.size := ⟨_, rfl⟩
 rw [<- hgb] at HG HTk HDr
 rw [<- hgb]
 clear hgb
 have HGc : Hid (∀ wx, Old W wx -> G5 wx (gb) P Q G H (.slice a m cap)) := fun wx ho => g5 (HG.out _ ho)
 have HTkc : Hid (∀ wx, Old W wx -> wx.cell? ⟨gb + 1, 0, none⟩ = some (.slice ba na ca) /\ wx.cell? ⟨gb + 1, 1, none⟩ = some (.int .u64 X) /\ wx.cell? ⟨gb + 1, 2, none⟩ = some (.slice bb nb cb) /\ wx.cell? ⟨gb + 1, 3, none⟩ = some (.int .u64 Y) /\ wx.cell? ⟨gb + 1, 4, none⟩ = some (.int .u64 Z) /\ wx.cell? ⟨gb + 1, 5, none⟩ = some (.slice bp np cp)) := fun wx ho => ⟨Y0 (HTk.out _ ho), Y1 (HTk.out _ ho), Y2 (HTk.out _ ho), Y3 (HTk.out _ ho), Y4 (HTk.out _ ho), Y5 (HTk.out _ ho)⟩
 have HDc : Hid (∀ wx, Old W wx -> wx.cell? ⟨gb + 1 + 1, 0, none⟩ = some (.slice (some ⟨hb, ho, none⟩) n cρ) /\ wx.cell? ⟨gb + 1 + 1, 1, none⟩ = some (.slice (some ⟨rb, ro, none⟩) n cR) /\ wx.cell? ⟨gb + 1 + 1, 2, none⟩ = some (.slice (some ⟨sb, so, none⟩) n cS) /\ wx.cell? ⟨gb + 1 + 1, 3, none⟩ = some (.slice (some ⟨tb, tof, none⟩) n cT)) := fun wx ho => ⟨Y0 (HDr.out _ ho), Y1 (HDr.out _ ho), Y2 (HDr.out _ ho), Y3 (HDr.out _ ho)⟩
 have HOc := hid fun wx i (hi : i < n) (ho : Old W wx) => HO0.out wx i hi (HW0.out.trans ho)
 have HRc := hid fun wx i (hi : i < n) (ho : Old W wx) => HR0.out wx i hi (HW0.out.trans ho)
 have HSc := hid fun wx i (hi : i < n) (ho : Old W wx) => HS0.out wx i hi (HW0.out.trans ho)
 have HTc := hid fun wx i (hi : i < n) (ho : Old W wx) => HT0.out wx i hi (HW0.out.trans ho)
 have HHc := hid fun wx j k (hj : j < n) (hk : k < 3) (hx : Old W wx) => HH0.out wx j k hj hk (HW0.out.trans hx)
 clear HO0 HR0 HS0 HT0 HH0
 go_upto_region 4 with (go_at_call 56; refine (HOr.out _ HW0.out).mono ?_; rintro e w1 ⟨rfl, o1⟩; obtain ⟨d0, d1, d2, d3⟩ := HDc.out _ o1)
 have HO1 := hid o1
 clear o1 d0 d1 d2 d3 HOr
 go_upto_region 5 with fail
 clear k1 k2 hmk
 have HF0 : Hid (Full (w1.alloc (.cells (madeCells #[Value.int .u64 0] N) 22)) w1.heap.size N (eI E Rr n 0)) := full_new w1 N _ fun k _ => eI_zero HRz.out
 have HO2 : Hid (Old W (w1.alloc (.cells (madeCells #[Value.int .u64 0] N) 22))) := HO1.out.alloc _
 have Hlb := hid HO1.out.size
 generalize w1.alloc (.cells (madeCells #[Value.int .u64 0] N) 22) = w2 at *
 generalize w1.heap.size = lb at *
 clear HO1
 go_upto_region 7 with fail
 go_loopw [11, 12] (fun v iv wx => ∃ i : Nat, iv = .int .i64 (i : Int) /\ i <= n /\ v = .int .u64 (vP i) /\ Hid (Full wx lb N (eI E Rr n i)) /\ Hid (Old W wx)) (fun _ iv _ => n - (intOf iv).toNat)
 case atStart => exact ⟨0, rfl, Nat.zero_le _, by rw [HVz.out], HF0, HO2⟩
 case round =>
  obtain ⟨i, rfl, hi, rfl, HN, HO⟩ := hrel
  by_cases hlt : i < n
  ·have hlt2 : i < n := hlt
   obtain ⟨x0, hx0⟩ : ∃ x0, x0 = O i := ⟨_, rfl⟩
   have HX0 : Hid (0 <= x0 /\ x0 < 1000) := by unfold Hid; rw [hx0]; exact HBd.out i hlt2
   have HXe := hid hx0.symm
   clear hx0
   have HVi : Hid (Value.int .i64 (IntKind.i64.wrap (O i + 1)) = .int .i64 (O i + 1)) := by have h := HX0.out; unfold Hid; rw [HXe.out, wrapi _ (by omega)]
   have HVu2 : Hid (Value.int .u64 (IntKind.u64.wrap (O i + 1)) = .int .u64 (O i + 1)) := by have h := HX0.out; unfold Hid; rw [HXe.out, wrapu _ (by omega)]
   have HOp : Hid (0 <= O i + 1) := by have h := HX0.out; unfold Hid; rw [HXe.out]; omega
   clear HXe HX0
   go_upto_region 9 with fail
   have HGx := hid fun wx (hx : Old wr wx) => HG.out _ (HO.out.trans hx)
   have HTx := hid fun wx (hx : Old wr wx) => HTk.out _ (HO.out.trans hx)
   have HDx := hid fun wx (hx : Old wr wx) => HDr.out _ (HO.out.trans hx)
   have HOi := hid fun wx (hx : Old wr wx) => HOc.out wx i hlt2 (HO.out.trans hx)
   have HRi := hid fun wx (hx : Old wr wx) => HRc.out wx i hlt2 (HO.out.trans hx)
   have HSi := hid fun wx (hx : Old wr wx) => HSc.out wx i hlt2 (HO.out.trans hx)
   have HTi := hid fun wx (hx : Old wr wx) => HTc.out wx i hlt2 (HO.out.trans hx)
   refine zae 10 [.k (gv P Q G H a m cap), .k (.pointer (some ⟨gb + 1, 1, none⟩)), .k (.int .u64 X), .k (.slice (some ⟨bo, oo, none⟩) n co), .k (.int .i64 (i : Int)), .k (.pointer (some ⟨bo, oo + i, none⟩)), .k (.int .i64 (O i)), .k (.int .i64 (O i + 1)), .k (.int .u64 (bE i)), .k (.int .u64 (bE i))] (Old wr) (by kernel_rfl) (by kernel_rfl) rfl ((Old.refl _).drew) ?st ?_
   case st =>
    refine .c (stsz U25 HGx.out) <| .c stpz <| .c (stfz 1 U22 HTx.out) <| .c stpz <| .c stpz <| .c (stiz (n := n) (c := co) hlt2 U27) <| .c (stlz U3 HOi.out) <| .c (stvz HVi.out) <| .c (stKz old_R func62 (fun wx _ => HPw.out wx i hlt2)) <| .c stpz .n
   intro t wx hR hk
   simp only [fill, Ent.val, zs0, zs1, zd1, zd0, zdn]
   go_upto_region 10 with fail
   have HN' := hid (HN.out.old hR)
   have HO' := hid (HO.out.trans hR)
   clear HN HO hR hk HGx HTx HDx HOi HRi HSi HTi
   have HN := HN'
   have HO := HO'
   clear HN' HO'
   have HOw := hid (HW0.out.trans HO.out)
   obtain ⟨g0, g1, g2, g3, g4⟩ := HGc.out _ HO.out
   obtain ⟨t0, t1, t2, t3, t4, t5⟩ := HTkc.out _ HO.out
   go_upto_region 11 with (go_at_call 69; refine (HDd.out _ i hlt2 HOw.out).mono ?_; rintro e w3 ⟨rfl, o3⟩)
   have HN' := hid (HN.out.old o3)
   have HO' := hid (HO.out.trans o3)
   clear HN HO HOw o3 g0 g1 g2 g3 g4 t0 t1 t2 t3 t4 t5
   have HN := HN'
   have HO := HO'
   clear HN' HO'
   have HGx := hid fun wx (hx : Old w3 wx) => HG.out _ (HO.out.trans hx)
   have HTx := hid fun wx (hx : Old w3 wx) => HTk.out _ (HO.out.trans hx)
   have HDx := hid fun wx (hx : Old w3 wx) => HDr.out _ (HO.out.trans hx)
   have HOi := hid fun wx (hx : Old w3 wx) => HOc.out wx i hlt2 (HO.out.trans hx)
   have HRi := hid fun wx (hx : Old w3 wx) => HRc.out wx i hlt2 (HO.out.trans hx)
   have HSi := hid fun wx (hx : Old w3 wx) => HSc.out wx i hlt2 (HO.out.trans hx)
   have HTi := hid fun wx (hx : Old w3 wx) => HTc.out wx i hlt2 (HO.out.trans hx)
   have HEr : Hid (U64 (R i) /\ U64 (S i) /\ U64 (T i)) := ⟨HRru.out i hlt2, HSu.out i hlt2, HTu.out i hlt2⟩
   have HCu : Hid (∀ wx, Calls prog 77 #[.int .u64 (mulI Y (R i) Q), .int .u64 (S i), .int .u64 Q] wx (Ret wx (.int .u64 (uE i)))) := fun wx => by rw [HuE.out]; exact zda _ _ Q (zaI _ _ _) HEr.out.2.1 wx
   refine zae 19 [.k (.pointer (some ⟨gb + 1, 3, none⟩)), .k (.int .u64 Y), .k (.pointer (some ⟨gb + 1 + 1, 1, none⟩)), .k (.slice (some ⟨rb, ro, none⟩) n cR), .k (.int .i64 (i : Int)), .k (.pointer (some ⟨rb, ro + i, none⟩)), .k (.int .u64 (R i)), .k (.pointer (some ⟨gb, 1, none⟩)), .k (.int .u64 Q), .k (.int .u64 (mulI Y (R i) Q)), .k (.pointer (some ⟨gb + 1 + 1, 2, none⟩)), .k (.slice (some ⟨sb, so, none⟩) n cS), .k (.int .i64 (i : Int)), .k (.pointer (some ⟨sb, so + i, none⟩)), .k (.int .u64 (S i)), .k (.pointer (some ⟨gb, 1, none⟩)), .k (.int .u64 Q), .k (.int .u64 (uE i)), .k (.int .u64 (uE i))] (Old w3) (by kernel_rfl) (by kernel_rfl) rfl ((Old.refl _).drew) ?st ?_
   case st =>
    refine .c stpz <| .c (stfz 3 U22 HTx.out) <| .c stpz <| .c (stfz 1 U29 HDx.out) <| .c stpz <| .c (stiz (n := n) (c := cR) hlt2 U29) <| .c (stlz U22 HRi.out) <| .c stpz <| .c (stfz 1 U22 HGx.out) <| .c (stKz old_R func70 (fun wx _ => zaO _ _ Q HYu.out HEr.out.1 wx)) <| .c stpz <| .c (stfz 2 U29 HDx.out) <| .c stpz <| .c (stiz (n := n) (c := cS) hlt2 U29) <| .c (stlz U22 HSi.out) <| .c stpz <| .c (stfz 1 U22 HGx.out) <| .c (stKz old_R func77 (fun wx _ => HCu.out wx)) <| .c stpz .n
   intro t w4 hR hk
   simp only [fill, Ent.val, zs0, zs1, zd1, zd0, zdn]
   go_upto_region 12 with fail
   have HN' := hid (HN.out.old hR)
   have HO' := hid (HO.out.trans hR)
   clear HN HO hR hk HGx HTx HDx HOi HRi HSi HTi HCu
   have HN := HN'
   have HO := HO'
   clear HN' HO'
   have HGx := hid fun wx (hx : Old w4 wx) => HG.out _ (HO.out.trans hx)
   have HTx := hid fun wx (hx : Old w4 wx) => HTk.out _ (HO.out.trans hx)
   have HDx := hid fun wx (hx : Old w4 wx) => HDr.out _ (HO.out.trans hx)
   have HOi := hid fun wx (hx : Old w4 wx) => HOc.out wx i hlt2 (HO.out.trans hx)
   have HRi := hid fun wx (hx : Old w4 wx) => HRc.out wx i hlt2 (HO.out.trans hx)
   have HSi := hid fun wx (hx : Old w4 wx) => HSc.out wx i hlt2 (HO.out.trans hx)
   have HTi := hid fun wx (hx : Old w4 wx) => HTc.out wx i hlt2 (HO.out.trans hx)
   have hi8 : i < N := by have := HNN.out; omega
   refine zae 12 [.k (.slice (some ⟨lb, 0, none⟩) N N), .k (.int .i64 (i : Int)), .k (.slice (some ⟨bo, oo, none⟩) n co), .k (.int .i64 (i : Int)), .k (.pointer (some ⟨bo, oo + i, none⟩)), .k (.int .i64 (O i)), .k (.int .i64 (O i + 1)), .k (.int .u64 (O i + 1)), .k (.pointer (some ⟨gb, 1, none⟩)), .k (.int .u64 Q), .k (.int .u64 ((O i + 1) % Q)), .k (.pointer (some ⟨lb, i, none⟩))] (Old w4) (by kernel_rfl) (by kernel_rfl) rfl ((Old.refl _).drew) ?st ?_
   case st =>
    refine .c stpz <| .c stpz <| .c stpz <| .c stpz <| .c (stiz (n := n) (c := co) hlt2 U27) <| .c (stlz U3 HOi.out) <| .c (stvz HVi.out) <| .c (stvz HVu2.out) <| .c stpz <| .c (stfz 1 U22 HGx.out) <| .c (strz HOp.out HQ.out) <| .c (sti0z (n := N) (c := N) hi8 U29) .n
   intro t w5 hR hk
   simp only [fill, Ent.val, zs0, zs1, zd1, zd0, zdn]
   have HN' := hid (HN.out.old hR)
   have HO' := hid (HO.out.trans hR)
   clear HN HO hR hk HGx HTx HDx HOi HRi HSi HTi
   have HN := HN'
   have HO := HO'
   clear HN' HO'
   have q1 := HN.out.cell i hi8
   have f1 := HN.out.free i
   have HN' := hid (HN.out.set i ((O i + 1) % Q))
   have HO' : Hid (Old W (w5.setCell ⟨lb, i, none⟩ (.int .u64 ((O i + 1) % Q)))) := HO.out.setCell (p := ⟨lb, i, none⟩) Hlb.out _
   clear HN HO
   go_upto_region 13 with fail
   clear q1 f1
   have HN := hid HN'
   have HO := hid HO'
   clear HN' HO'
   generalize w5.setCell ⟨lb, i, none⟩ (.int .u64 ((O i + 1) % Q)) = w6 at *
   have HGx := hid fun wx (hx : Old w6 wx) => HG.out _ (HO.out.trans hx)
   have HTx := hid fun wx (hx : Old w6 wx) => HTk.out _ (HO.out.trans hx)
   have HDx := hid fun wx (hx : Old w6 wx) => HDr.out _ (HO.out.trans hx)
   have HOi := hid fun wx (hx : Old w6 wx) => HOc.out wx i hlt2 (HO.out.trans hx)
   have HRi := hid fun wx (hx : Old w6 wx) => HRc.out wx i hlt2 (HO.out.trans hx)
   have HSi := hid fun wx (hx : Old w6 wx) => HSc.out wx i hlt2 (HO.out.trans hx)
   have HTi := hid fun wx (hx : Old w6 wx) => HTc.out wx i hlt2 (HO.out.trans hx)
   obtain ⟨p1, hp1⟩ : ∃ p1, p1 = n + i := ⟨_, rfl⟩
   have hp8 : p1 < N := by have := HNN.out; omega
   have HP : Hid (Value.int .i64 (IntKind.i64.wrap ((n : Int) + (i : Int))) = .int .i64 (p1 : Int)) := vi8 _ p1 (by omega) (by omega)
   have Hp1 := hid hp1
   clear hp1
   refine zae 13 [.k (.slice (some ⟨lb, 0, none⟩) N N), .k (.int .i64 (n : Int)), .k (.int .i64 (i : Int)), .k (.int .i64 (p1 : Int)), .k (.pointer (some ⟨gb + 1 + 1, 1, none⟩)), .k (.slice (some ⟨rb, ro, none⟩) n cR), .k (.int .i64 (i : Int)), .k (.pointer (some ⟨rb, ro + i, none⟩)), .k (.int .u64 (R i)), .k (.pointer (some ⟨gb, 1, none⟩)), .k (.int .u64 Q), .k (.int .u64 (R i % Q)), .k (.pointer (some ⟨lb, p1, none⟩))] (Old w6) (by kernel_rfl) (by kernel_rfl) rfl ((Old.refl _).drew) ?st ?_
   case st =>
    refine .c stpz <| .c stpz <| .c stpz <| .c (stvz HP.out) <| .c stpz <| .c (stfz 1 U29 HDx.out) <| .c stpz <| .c (stiz (n := n) (c := cR) hlt2 U29) <| .c (stlz U22 HRi.out) <| .c stpz <| .c (stfz 1 U22 HGx.out) <| .c (strz HEr.out.1.1 HQ.out) <| .c (sti0z (n := N) (c := N) hp8 U29) .n
   intro t w7 hR hk
   simp only [fill, Ent.val, zs0, zs1, zd1, zd0, zdn]
   have HN' := hid (HN.out.old hR)
   have HO' : Hid (Old W w7) := HO.out.trans hR
   clear HN HO hR hk HGx HTx HDx HOi HRi HSi HTi
   have HN := HN'
   have HO := HO'
   clear HN' HO'
   have q1 := HN.out.cell p1 hp8
   have f1 := HN.out.free p1
   have HN' : Hid (Full (w7.setCell ⟨lb, p1, none⟩ (.int .u64 (R i % Q))) lb N (sett8 (sett8 (eI E Rr n i) i ((O i + 1) % Q)) p1 (R i % Q))) := HN.out.set p1 (R i % Q)
   have HO' : Hid (Old W (w7.setCell ⟨lb, p1, none⟩ (.int .u64 (R i % Q)))) := HO.out.setCell (p := ⟨lb, p1, none⟩) Hlb.out _
   clear HN HO HP
   go_upto_region 14 with fail
   clear q1 f1
   have HN : Hid (Full (w7.setCell ⟨lb, p1, none⟩ (.int .u64 (R i % Q))) lb N (sett8 (sett8 (eI E Rr n i) i ((O i + 1) % Q)) p1 (R i % Q))) := HN'
   have HO : Hid (Old W (w7.setCell ⟨lb, p1, none⟩ (.int .u64 (R i % Q)))) := HO'
   clear HN' HO'
   generalize w7.setCell ⟨lb, p1, none⟩ (.int .u64 (R i % Q)) = w8 at *
   obtain ⟨p2, hp2⟩ : ∃ p2, p2 = 2 * n + i := ⟨_, rfl⟩
   clear hp8
   have hp8 : p2 < N := by have := HNN.out; omega
   have e1 : IntKind.i64.wrap (2 * (n : Int)) = 2 * (n : Int) := by rw [IntKind.wrap_i64]; omega
   have e2 : IntKind.i64.wrap (2 * (n : Int) + (i : Int)) = (p2 : Int) := wi8 _ p2 (by omega) (by omega)
   have Hp2 : Hid (p2 = 2 * n + i) := hp2
   clear hp2
   have q1 := HN.out.cell p2 hp8
   have f1 := HN.out.free p2
   have HN' : Hid (Full (w8.setCell ⟨lb, p2, none⟩ (.int .u64 (bE i))) lb N (sett8 (sett8 (sett8 (eI E Rr n i) i ((O i + 1) % Q)) p1 (R i % Q)) p2 (bE i))) := HN.out.set p2 (bE i)
   have HO' : Hid (Old W (w8.setCell ⟨lb, p2, none⟩ (.int .u64 (bE i)))) := HO.out.setCell (p := ⟨lb, p2, none⟩) Hlb.out _
   clear HN HO
   go_upto_region 15 with fail
   clear q1 f1 e1 e2
   have HN : Hid (Full (w8.setCell ⟨lb, p2, none⟩ (.int .u64 (bE i))) lb N (sett8 (sett8 (sett8 (eI E Rr n i) i ((O i + 1) % Q)) p1 (R i % Q)) p2 (bE i))) := HN'
   have HO : Hid (Old W (w8.setCell ⟨lb, p2, none⟩ (.int .u64 (bE i)))) := HO'
   clear HN' HO'
   generalize w8.setCell ⟨lb, p2, none⟩ (.int .u64 (bE i)) = w9 at *
   have HGx : Hid (∀ wx, Old w9 wx -> wx.heap[gb]? = some (.cells (gc P Q G H a m cap) 25 (0, 0))) := fun wx hx => HG.out _ (HO.out.trans hx)
   have HTx : Hid (∀ wx, Old w9 wx -> wx.heap[gb + 1]? = some (.cells (tkc ba na ca X bb nb cb Y Z bp np cp) 41 (0, 0))) := fun wx hx => HTk.out _ (HO.out.trans hx)
   have HDx : Hid (∀ wx, Old w9 wx -> wx.heap[gb + 1 + 1]? = some (.cells (dvc (some ⟨hb, ho, none⟩) n cρ (some ⟨rb, ro, none⟩) n cR (some ⟨sb, so, none⟩) n cS (some ⟨tb, tof, none⟩) n cT bD nD cD) 31 (0, 0))) := fun wx hx => HDr.out _ (HO.out.trans hx)
   have HOi : Hid (∀ wx, Old w9 wx -> wx.cell? ⟨bo, oo + i, none⟩ = some (.int .i64 (O i))) := fun wx hx => HOc.out wx i hlt2 (HO.out.trans hx)
   have HRi : Hid (∀ wx, Old w9 wx -> wx.cell? ⟨rb, ro + i, none⟩ = some (.int .u64 (R i))) := fun wx hx => HRc.out wx i hlt2 (HO.out.trans hx)
   have HSi : Hid (∀ wx, Old w9 wx -> wx.cell? ⟨sb, so + i, none⟩ = some (.int .u64 (S i))) := fun wx hx => HSc.out wx i hlt2 (HO.out.trans hx)
   have HTi : Hid (∀ wx, Old w9 wx -> wx.cell? ⟨tb, tof + i, none⟩ = some (.int .u64 (T i))) := fun wx hx => HTc.out wx i hlt2 (HO.out.trans hx)
   obtain ⟨m3, hm3⟩ : ∃ m3, m3 = 3 * n := ⟨_, rfl⟩
   obtain ⟨p3, hp3⟩ : ∃ p3, p3 = 3 * n + i := ⟨_, rfl⟩
   clear hp8
   have hp8 : p3 < N := by have := HNN.out; omega
   have HM : Hid (Value.int .i64 (IntKind.i64.wrap (3 * (n : Int))) = .int .i64 (m3 : Int)) := vi8 _ m3 (by omega) (by omega)
   have HP : Hid (Value.int .i64 (IntKind.i64.wrap ((m3 : Int) + (i : Int))) = .int .i64 (p3 : Int)) := vi8 _ p3 (by omega) (by omega)
   clear hm3
   have Hp3 : Hid (p3 = 3 * n + i) := hp3
   clear hp3
   refine zae 14 [.k (.slice (some ⟨lb, 0, none⟩) N N), .k (.int .i64 (n : Int)), .k (.int .i64 (m3 : Int)), .k (.int .i64 (i : Int)), .k (.int .i64 (p3 : Int)), .k (.pointer (some ⟨gb + 1 + 1, 2, none⟩)), .k (.slice (some ⟨sb, so, none⟩) n cS), .k (.int .i64 (i : Int)), .k (.pointer (some ⟨sb, so + i, none⟩)), .k (.int .u64 (S i)), .k (.pointer (some ⟨gb, 1, none⟩)), .k (.int .u64 Q), .k (.int .u64 (S i % Q)), .k (.pointer (some ⟨lb, p3, none⟩))] (Old w9) (by kernel_rfl) (by kernel_rfl) rfl ((Old.refl _).drew) ?st ?_
   case st =>
    refine .c stpz <| .c stpz <| .c (stvz HM.out) <| .c stpz <| .c (stvz HP.out) <| .c stpz <| .c (stfz 2 U29 HDx.out) <| .c stpz <| .c (stiz (n := n) (c := cS) hlt2 U29) <| .c (stlz U22 HSi.out) <| .c stpz <| .c (stfz 1 U22 HGx.out) <| .c (strz HEr.out.2.1.1 HQ.out) <| .c (sti0z (n := N) (c := N) hp8 U29) .n
   intro t wa hR hk
   simp only [fill, Ent.val, zs0, zs1, zd1, zd0, zdn]
   have HN' : Hid (Full wa lb N _) := HN.out.old hR
   have HO' : Hid (Old W wa) := HO.out.trans hR
   clear HN HO hR hk HGx HTx HDx HOi HRi HSi HTi
   have HN := HN'
   have HO := HO'
   clear HN' HO'
   have q1 := HN.out.cell p3 hp8
   have f1 := HN.out.free p3
   have HN' : Hid (Full (wa.setCell ⟨lb, p3, none⟩ (.int .u64 (S i % Q))) lb N (sett8 (sett8 (sett8 (sett8 (eI E Rr n i) i ((O i + 1) % Q)) p1 (R i % Q)) p2 (bE i)) p3 (S i % Q))) := HN.out.set p3 (S i % Q)
   have HO' : Hid (Old W (wa.setCell ⟨lb, p3, none⟩ (.int .u64 (S i % Q)))) := HO.out.setCell (p := ⟨lb, p3, none⟩) Hlb.out _
   clear HN HO HP HM
   go_upto_region 16 with fail
   clear q1 f1
   have HN : Hid (Full (wa.setCell ⟨lb, p3, none⟩ (.int .u64 (S i % Q))) lb N (sett8 (sett8 (sett8 (sett8 (eI E Rr n i) i ((O i + 1) % Q)) p1 (R i % Q)) p2 (bE i)) p3 (S i % Q))) := HN'
   have HO : Hid (Old W (wa.setCell ⟨lb, p3, none⟩ (.int .u64 (S i % Q)))) := HO'
   clear HN' HO'
   generalize wa.setCell ⟨lb, p3, none⟩ (.int .u64 (S i % Q)) = wb at *
   obtain ⟨p4, hp4⟩ : ∃ p4, p4 = 4 * n + i := ⟨_, rfl⟩
   clear hp8
   have hp8 : p4 < N := by have := HNN.out; omega
   have e1 : IntKind.i64.wrap (4 * (n : Int)) = 4 * (n : Int) := by rw [IntKind.wrap_i64]; omega
   have e2 : IntKind.i64.wrap (4 * (n : Int) + (i : Int)) = (p4 : Int) := wi8 _ p4 (by omega) (by omega)
   have Hp4 : Hid (p4 = 4 * n + i) := hp4
   clear hp4
   have q1 := HN.out.cell p4 hp8
   have f1 := HN.out.free p4
   have HN' : Hid (Full (wb.setCell ⟨lb, p4, none⟩ (.int .u64 (dE i))) lb N (sett8 (sett8 (sett8 (sett8 (sett8 (eI E Rr n i) i ((O i + 1) % Q)) p1 (R i % Q)) p2 (bE i)) p3 (S i % Q)) p4 (dE i))) := HN.out.set p4 (dE i)
   have HO' : Hid (Old W (wb.setCell ⟨lb, p4, none⟩ (.int .u64 (dE i)))) := HO.out.setCell (p := ⟨lb, p4, none⟩) Hlb.out _
   clear HN HO
   go_upto_region 17 with fail
   clear q1 f1 e1 e2
   have HN : Hid (Full (wb.setCell ⟨lb, p4, none⟩ (.int .u64 (dE i))) lb N (sett8 (sett8 (sett8 (sett8 (sett8 (eI E Rr n i) i ((O i + 1) % Q)) p1 (R i % Q)) p2 (bE i)) p3 (S i % Q)) p4 (dE i))) := HN'
   have HO : Hid (Old W (wb.setCell ⟨lb, p4, none⟩ (.int .u64 (dE i)))) := HO'
   clear HN' HO'
   generalize wb.setCell ⟨lb, p4, none⟩ (.int .u64 (dE i)) = wc at *
   obtain ⟨p5, hp5⟩ : ∃ p5, p5 = 5 * n + i := ⟨_, rfl⟩
   clear hp8
   have hp8 : p5 < N := by have := HNN.out; omega
   have e1 : IntKind.i64.wrap (5 * (n : Int)) = 5 * (n : Int) := by rw [IntKind.wrap_i64]; omega
   have e2 : IntKind.i64.wrap (5 * (n : Int) + (i : Int)) = (p5 : Int) := wi8 _ p5 (by omega) (by omega)
   have Hp5 : Hid (p5 = 5 * n + i) := hp5
   clear hp5
   have q1 := HN.out.cell p5 hp8
   have f1 := HN.out.free p5
   have HN' : Hid (Full (wc.setCell ⟨lb, p5, none⟩ (.int .u64 (uE i))) lb N (sett8 (sett8 (sett8 (sett8 (sett8 (sett8 (eI E Rr n i) i ((O i + 1) % Q)) p1 (R i % Q)) p2 (bE i)) p3 (S i % Q)) p4 (dE i)) p5 (uE i))) := HN.out.set p5 (uE i)
   have HO' : Hid (Old W (wc.setCell ⟨lb, p5, none⟩ (.int .u64 (uE i)))) := HO.out.setCell (p := ⟨lb, p5, none⟩) Hlb.out _
   clear HN HO
   go_upto_region 18 with fail
   clear q1 f1 e1 e2
   have HN : Hid (Full (wc.setCell ⟨lb, p5, none⟩ (.int .u64 (uE i))) lb N (sett8 (sett8 (sett8 (sett8 (sett8 (sett8 (eI E Rr n i) i ((O i + 1) % Q)) p1 (R i % Q)) p2 (bE i)) p3 (S i % Q)) p4 (dE i)) p5 (uE i))) := HN'
   have HO : Hid (Old W (wc.setCell ⟨lb, p5, none⟩ (.int .u64 (uE i)))) := HO'
   clear HN' HO'
   generalize wc.setCell ⟨lb, p5, none⟩ (.int .u64 (uE i)) = wd at *
   have HM6 : Hid (Full wd lb N (midI E Rr n i)) := by
    have h := HN.out
    obtain ⟨a0, a1, a2, a3, a4, a5, _⟩ := HEa.out i hlt2
    unfold Hid midI
    rw [a0, a1, a2, a3, a4, a5, <- Hp1.out, <- Hp2.out, <- Hp3.out, <- Hp4.out, <- Hp5.out]
    exact h
   clear HN Hp1 Hp2 Hp3 Hp4 Hp5 hp8 hi8
   have HN := HM6
   clear HM6
   have HH3 : Hid (∀ wx c, c < 3 -> Old W wx -> wx.cell? ⟨hb, ho + i * 3 + c, none⟩ = some (.int .u64 (Rh i c))) := fun wx c hc hx => HHc.out wx i c hlt2 hc hx
   by_cases hi0 : i = 0
   ·have HNh : Hid (Full wd lb N (eH E Rr n i 0)) := HN.out.congr fun k hk => by rw [hi0]; exact midI_zero h1
    have HVv : Hid (uE i = vP (i + 1)) := by unfold Hid; rw [hi0]; exact HV0.out.symm
    have hi0' : (i : Int) = 0 := by omega
    clear HN hi0
    go_upto_region 20 with fail
    clear hi0'
    go_upto_region 23 with fail
    go_loopw [16] (fun kv wx => ∃ c : Nat, kv = .int .i64 (c : Int) /\ c <= 3 /\ Hid (Full wx lb N (eH E Rr n i c)) /\ Hid (Old W wx)) (fun kv _ => 3 - (intOf kv).toNat)
    case atStart => exact ⟨0, rfl, Nat.zero_le _, HNh, HO⟩
    case round =>
     obtain ⟨c, rfl, hc, HN, HO⟩ := hrel
     by_cases hcl : c < 3
     ·have hcl2 : c < 3 := hcl
      have hcl3 : (c : Int) < 3 := by omega
      obtain ⟨m7, hm7⟩ : ∃ m7, m7 = 7 * n := ⟨_, rfl⟩
      obtain ⟨p7, hp7⟩ : ∃ p7, p7 = 7 * n + c := ⟨_, rfl⟩
      have hp8 : p7 < N := by have := HNN.out; omega
      have HM : Hid (Value.int .i64 (IntKind.i64.wrap (7 * (n : Int))) = .int .i64 (m7 : Int)) := vi8 _ m7 (by omega) (by omega)
      have HP : Hid (Value.int .i64 (IntKind.i64.wrap ((m7 : Int) + (c : Int))) = .int .i64 (p7 : Int)) := vi8 _ p7 (by omega) (by omega)
      have Hp7 : Hid (p7 = 7 * n + c) := hp7
      have HLc : Hid (∀ wx, Old wr wx -> wx.cell? ⟨lb, p7, none⟩ = some (.int .u64 (Rr c i))) := fun wx hx => by
       have h := (HN.out.old hx).cell p7 hp8
       rw [Hp7.out, eH_at, <- Hp7.out] at h
       exact h
      clear hm7 hp7
      go_upto_region 25 with fail
      have HGx := hid fun wx (hx : Old wr wx) => HG.out _ (HO.out.trans hx)
      have HDx := hid fun wx (hx : Old wr wx) => HDr.out _ (HO.out.trans hx)
      have HHx : Hid (∀ wx, Old wr wx -> wx.cell? ⟨hb, ho + i * 3 + c, none⟩ = some (.int .u64 (Rh i c))) := fun wx hx => HH3.out wx c hcl2 (HO.out.trans hx)
      have HCs : Hid (∀ wx, Calls prog 78 #[.int .u64 (Rr c i), .int .u64 (mulI (bE i) (Rh i c) Q), .int .u64 Q] wx (Ret wx (.int .u64 (Rr c (i + 1))))) := fun wx => by rw [HRn.out]; exact zdl _ _ Q (HRu.out _ _) (zaI _ _ _) wx
      refine zae 27 [.k (.slice (some ⟨lb, 0, none⟩) N N), .k (.int .i64 (n : Int)), .k (.int .i64 (m7 : Int)), .k (.int .i64 (c : Int)), .k (.int .i64 (p7 : Int)), .k (.slice (some ⟨lb, 0, none⟩) N N), .k (.int .i64 (n : Int)), .k (.int .i64 (m7 : Int)), .k (.int .i64 (c : Int)), .k (.int .i64 (p7 : Int)), .k (.pointer (some ⟨lb, p7, none⟩)), .k (.int .u64 (Rr c i)), .k (.int .u64 (bE i)), .k (.pointer (some ⟨gb + 1 + 1, 0, none⟩)), .k (.slice (some ⟨hb, ho, none⟩) n cρ), .k (.int .i64 (i : Int)), .k (.int .i64 (c : Int)), .k (.pointer (some ⟨hb, ho + i * 3, none⟩)), .k (.pointer (some ⟨hb, ho + i * 3 + c, none⟩)), .k (.int .u64 (Rh i c)), .k (.pointer (some ⟨gb, 1, none⟩)), .k (.int .u64 Q), .k (.int .u64 (mulI (bE i) (Rh i c) Q)), .k (.pointer (some ⟨gb, 1, none⟩)), .k (.int .u64 Q), .k (.int .u64 (Rr c (i + 1))), .k (.pointer (some ⟨lb, p7, none⟩))] (Old wr) (by kernel_rfl) (by kernel_rfl) rfl ((Old.refl _).drew) ?st ?_
      case st =>
       refine .c stpz <| .c stpz <| .c (stvz HM.out) <| .c stpz <| .c (stvz HP.out) <| .c stpz <| .c stpz <| .c (stvz HM.out) <| .c stpz <| .c (stvz HP.out) <| .c (sti0z (n := N) (c := N) hp8 U29) <| .c (stlz U22 HLc.out) <| .c stpz <| .c stpz <| .c (stfz 0 U28 HDx.out) <| .c stpz <| .c stpz <| .c (stjz (n := n) (c := cρ) 3 hlt2 U28) <| .c (saiz hcl2 U63) <| .c (stlz U22 HHx.out) <| .c stpz <| .c (stfz 1 U22 HGx.out) <| .c (stKz old_R func70 (fun wx _ => zaO _ _ Q (HbU.out i) (HRhu.out i c hlt2 hcl2) wx)) <| .c stpz <| .c (stfz 1 U22 HGx.out) <| .c (stKz old_R func78 (fun wx _ => HCs.out wx)) <| .c (sti0z (n := N) (c := N) hp8 U29) .n
      intro t wy hR hk
      simp only [fill, Ent.val, zs0, zs1, zd1, zd0, zdn]
      have HNy := HN.out.old hR
      have HOy : Hid (Old W wy) := HO.out.trans hR
      have q1 := HNy.cell p7 hp8
      have f1 := HNy.free p7
      have HN2 : Hid (Full (wy.setCell ⟨lb, p7, none⟩ (.int .u64 (Rr c (i + 1)))) lb N (eH E Rr n i (c + 1))) := (HNy.set p7 (Rr c (i + 1))).congr fun k hk => by
       have h := eH_next (E := E) (Rr := Rr) (n := n) (i := i) (k := k) (c := c)
       rw [Hp7.out]
       exact h
      have HO2 : Hid (Old W (wy.setCell ⟨lb, p7, none⟩ (.int .u64 (Rr c (i + 1))))) := HOy.out.setCell (p := ⟨lb, p7, none⟩) Hlb.out _
      clear HNy HOy hR hk HN HO HGx HDx HHx HCs HLc HM HP
      go_wp2_with fail
      go_roundw
      case rel => exact ⟨c + 1, zab c, by omega, HN2, HO2⟩
      case measure => simp [intOf]; omega
     ·have hc3 : c = 3 := by omega
      subst hc3
      have HNe : Hid (Full wr lb N (eI E Rr n (i + 1))) := HN.out.congr fun k hk => eH_done (by have := HNN.out; omega)
      clear HN
      go_wp2_with fail
      go_roundw
      case rel => exact ⟨i + 1, zab i, by omega, by rw [HVv.out], HNe, HO⟩
      case measure => simp [intOf]; omega
   ·have hi1 : 0 < i := by omega
    have hi0' : ¬ (i : Int) = 0 := by omega
    clear hi0
    go_upto_region 20 with fail
    clear hi0'
    have HGx : Hid (∀ wx, Old wd wx -> wx.heap[gb]? = some (.cells (gc P Q G H a m cap) 25 (0, 0))) := fun wx hx => HG.out _ (HO.out.trans hx)
    have HTx : Hid (∀ wx, Old wd wx -> wx.heap[gb + 1]? = some (.cells (tkc ba na ca X bb nb cb Y Z bp np cp) 41 (0, 0))) := fun wx hx => HTk.out _ (HO.out.trans hx)
    have HDx : Hid (∀ wx, Old wd wx -> wx.heap[gb + 1 + 1]? = some (.cells (dvc (some ⟨hb, ho, none⟩) n cρ (some ⟨rb, ro, none⟩) n cR (some ⟨sb, so, none⟩) n cS (some ⟨tb, tof, none⟩) n cT bD nD cD) 31 (0, 0))) := fun wx hx => HDr.out _ (HO.out.trans hx)
    have HOi : Hid (∀ wx, Old wd wx -> wx.cell? ⟨bo, oo + i, none⟩ = some (.int .i64 (O i))) := fun wx hx => HOc.out wx i hlt2 (HO.out.trans hx)
    have HRi : Hid (∀ wx, Old wd wx -> wx.cell? ⟨rb, ro + i, none⟩ = some (.int .u64 (R i))) := fun wx hx => HRc.out wx i hlt2 (HO.out.trans hx)
    have HSi : Hid (∀ wx, Old wd wx -> wx.cell? ⟨sb, so + i, none⟩ = some (.int .u64 (S i))) := fun wx hx => HSc.out wx i hlt2 (HO.out.trans hx)
    have HTi : Hid (∀ wx, Old wd wx -> wx.cell? ⟨tb, tof + i, none⟩ = some (.int .u64 (T i))) := fun wx hx => HTc.out wx i hlt2 (HO.out.trans hx)
    have HCv : Hid (∀ wx, Calls prog 77 #[.int .u64 (mulI (vP i) (dE i) Q), .int .u64 (T i), .int .u64 Q] wx (Ret wx (.int .u64 (vP (i + 1))))) := fun wx => by rw [HVn.out i hi1]; exact zda _ _ Q (zaI _ _ _) HEr.out.2.2 wx
    refine zae 13 [.k (.int .u64 (vP i)), .k (.int .u64 (dE i)), .k (.pointer (some ⟨gb, 1, none⟩)), .k (.int .u64 Q), .k (.int .u64 (mulI (vP i) (dE i) Q)), .k (.pointer (some ⟨gb + 1 + 1, 3, none⟩)), .k (.slice (some ⟨tb, tof, none⟩) n cT), .k (.int .i64 (i : Int)), .k (.pointer (some ⟨tb, tof + i, none⟩)), .k (.int .u64 (T i)), .k (.pointer (some ⟨gb, 1, none⟩)), .k (.int .u64 Q), .k (.int .u64 (vP (i + 1)))] (Old wd) (by kernel_rfl) (by kernel_rfl) rfl ((Old.refl _).drew) ?st ?_
    case st =>
     refine .c stpz <| .c stpz <| .c stpz <| .c (stfz 1 U22 HGx.out) <| .c (stKz old_R func70 (fun wx _ => zaO _ _ Q (HVu.out i) (HdU.out i) wx)) <| .c stpz <| .c (stfz 3 U29 HDx.out) <| .c stpz <| .c (stiz (n := n) (c := cT) hlt2 U29) <| .c (stlz U22 HTi.out) <| .c stpz <| .c (stfz 1 U22 HGx.out) <| .c (stKz old_R func77 (fun wx _ => HCv.out wx)) .n
    intro t we hR hk
    simp only [fill, Ent.val, zs0, zs1, zd1, zd0, zdn]
    go_upto_region 21 with fail
    have HN' : Hid (Full we lb N _) := HN.out.old hR
    have HO' : Hid (Old W we) := HO.out.trans hR
    clear HN HO hR hk HGx HTx HDx HOi HRi HSi HTi HCv
    have HN := HN'
    have HO := HO'
    clear HN' HO'
    have HGx : Hid (∀ wx, Old we wx -> wx.heap[gb]? = some (.cells (gc P Q G H a m cap) 25 (0, 0))) := fun wx hx => HG.out _ (HO.out.trans hx)
    have HTx : Hid (∀ wx, Old we wx -> wx.heap[gb + 1]? = some (.cells (tkc ba na ca X bb nb cb Y Z bp np cp) 41 (0, 0))) := fun wx hx => HTk.out _ (HO.out.trans hx)
    have HDx : Hid (∀ wx, Old we wx -> wx.heap[gb + 1 + 1]? = some (.cells (dvc (some ⟨hb, ho, none⟩) n cρ (some ⟨rb, ro, none⟩) n cR (some ⟨sb, so, none⟩) n cS (some ⟨tb, tof, none⟩) n cT bD nD cD) 31 (0, 0))) := fun wx hx => HDr.out _ (HO.out.trans hx)
    have HOi : Hid (∀ wx, Old we wx -> wx.cell? ⟨bo, oo + i, none⟩ = some (.int .i64 (O i))) := fun wx hx => HOc.out wx i hlt2 (HO.out.trans hx)
    have HRi : Hid (∀ wx, Old we wx -> wx.cell? ⟨rb, ro + i, none⟩ = some (.int .u64 (R i))) := fun wx hx => HRc.out wx i hlt2 (HO.out.trans hx)
    have HSi : Hid (∀ wx, Old we wx -> wx.cell? ⟨sb, so + i, none⟩ = some (.int .u64 (S i))) := fun wx hx => HSc.out wx i hlt2 (HO.out.trans hx)
    have HTi : Hid (∀ wx, Old we wx -> wx.cell? ⟨tb, tof + i, none⟩ = some (.int .u64 (T i))) := fun wx hx => HTc.out wx i hlt2 (HO.out.trans hx)
    obtain ⟨m6, hm6⟩ : ∃ m6, m6 = 6 * n := ⟨_, rfl⟩
    obtain ⟨q6, hq6⟩ : ∃ q6, q6 = 6 * n + i := ⟨_, rfl⟩
    obtain ⟨p6, hp6⟩ : ∃ p6, p6 = 6 * n + i - 1 := ⟨_, rfl⟩
    have hp8 : p6 < N := by have := HNN.out; omega
    have HM : Hid (Value.int .i64 (IntKind.i64.wrap (6 * (n : Int))) = .int .i64 (m6 : Int)) := vi8 _ m6 (by omega) (by omega)
    have HQ6 : Hid (Value.int .i64 (IntKind.i64.wrap ((m6 : Int) + (i : Int))) = .int .i64 (q6 : Int)) := vi8 _ q6 (by omega) (by omega)
    have HP : Hid (Value.int .i64 (IntKind.i64.wrap ((q6 : Int) - 1)) = .int .i64 (p6 : Int)) := vi8 _ p6 (by omega) (by omega)
    clear hm6 hq6
    have Hp6 : Hid (p6 = 6 * n + i - 1) := hp6
    clear hp6
    refine zae 15 [.k (.slice (some ⟨lb, 0, none⟩) N N), .k (.int .i64 (n : Int)), .k (.int .i64 (m6 : Int)), .k (.int .i64 (i : Int)), .k (.int .i64 (q6 : Int)), .k (.int .i64 (p6 : Int)), .k (.pointer (some ⟨gb + 1 + 1, 3, none⟩)), .k (.slice (some ⟨tb, tof, none⟩) n cT), .k (.int .i64 (i : Int)), .k (.pointer (some ⟨tb, tof + i, none⟩)), .k (.int .u64 (T i)), .k (.pointer (some ⟨gb, 1, none⟩)), .k (.int .u64 Q), .k (.int .u64 (T i % Q)), .k (.pointer (some ⟨lb, p6, none⟩))] (Old we) (by kernel_rfl) (by kernel_rfl) rfl ((Old.refl _).drew) ?st ?_
    case st =>
     refine .c stpz <| .c stpz <| .c (stvz HM.out) <| .c stpz <| .c (stvz HQ6.out) <| .c (stvz HP.out) <| .c stpz <| .c (stfz 3 U29 HDx.out) <| .c stpz <| .c (stiz (n := n) (c := cT) hlt2 U29) <| .c (stlz U22 HTi.out) <| .c stpz <| .c (stfz 1 U22 HGx.out) <| .c (strz HEr.out.2.2.1 HQ.out) <| .c (sti0z (n := N) (c := N) hp8 U29) .n
    intro t wf hR hk
    simp only [fill, Ent.val, zs0, zs1, zd1, zd0, zdn]
    have HN' : Hid (Full wf lb N _) := HN.out.old hR
    have HO' : Hid (Old W wf) := HO.out.trans hR
    clear HN HO hR hk HGx HTx HDx HOi HRi HSi HTi
    have HN := HN'
    have HO := HO'
    clear HN' HO'
    have q1 := HN.out.cell p6 hp8
    have f1 := HN.out.free p6
    have HN' : Hid (Full (wf.setCell ⟨lb, p6, none⟩ (.int .u64 (T i % Q))) lb N (sett8 (midI E Rr n i) p6 (T i % Q))) := HN.out.set p6 (T i % Q)
    have HO' : Hid (Old W (wf.setCell ⟨lb, p6, none⟩ (.int .u64 (T i % Q)))) := HO.out.setCell (p := ⟨lb, p6, none⟩) Hlb.out _
    clear HN HO HP HQ6 HM
    go_upto_region 22 with fail
    clear q1 f1
    have HN : Hid (Full (wf.setCell ⟨lb, p6, none⟩ (.int .u64 (T i % Q))) lb N (sett8 (midI E Rr n i) p6 (T i % Q))) := HN'
    have HO : Hid (Old W (wf.setCell ⟨lb, p6, none⟩ (.int .u64 (T i % Q)))) := HO'
    clear HN' HO'
    generalize wf.setCell ⟨lb, p6, none⟩ (.int .u64 (T i % Q)) = wg at *
    have HNh : Hid (Full wg lb N (eH E Rr n i 0)) := HN.out.congr fun k hk => by
     have h := midI_pos (E := E) (Rr := Rr) (k := k) hlt2 hi1
     rw [(HEa.out i hlt2).2.2.2.2.2.2 hi1, <- Hp6.out] at h
     exact h
    clear HN Hp6 hp8
    go_upto_region 23 with fail
    go_loopw [16] (fun kv wx => ∃ c : Nat, kv = .int .i64 (c : Int) /\ c <= 3 /\ Hid (Full wx lb N (eH E Rr n i c)) /\ Hid (Old W wx)) (fun kv _ => 3 - (intOf kv).toNat)
    case atStart => exact ⟨0, rfl, Nat.zero_le _, HNh, HO⟩
    case round =>
     obtain ⟨c, rfl, hc, HN, HO⟩ := hrel
     by_cases hcl : c < 3
     ·have hcl2 : c < 3 := hcl
      have hcl3 : (c : Int) < 3 := by omega
      obtain ⟨m7, hm7⟩ : ∃ m7, m7 = 7 * n := ⟨_, rfl⟩
      obtain ⟨p7, hp7⟩ : ∃ p7, p7 = 7 * n + c := ⟨_, rfl⟩
      have hp8 : p7 < N := by have := HNN.out; omega
      have HM : Hid (Value.int .i64 (IntKind.i64.wrap (7 * (n : Int))) = .int .i64 (m7 : Int)) := vi8 _ m7 (by omega) (by omega)
      have HP : Hid (Value.int .i64 (IntKind.i64.wrap ((m7 : Int) + (c : Int))) = .int .i64 (p7 : Int)) := vi8 _ p7 (by omega) (by omega)
      have Hp7 : Hid (p7 = 7 * n + c) := hp7
      have HLc : Hid (∀ wx, Old wr wx -> wx.cell? ⟨lb, p7, none⟩ = some (.int .u64 (Rr c i))) := fun wx hx => by
       have h := (HN.out.old hx).cell p7 hp8
       rw [Hp7.out, eH_at, <- Hp7.out] at h
       exact h
      clear hm7 hp7
      go_upto_region 25 with fail
      have HGx := hid fun wx (hx : Old wr wx) => HG.out _ (HO.out.trans hx)
      have HDx := hid fun wx (hx : Old wr wx) => HDr.out _ (HO.out.trans hx)
      have HHx : Hid (∀ wx, Old wr wx -> wx.cell? ⟨hb, ho + i * 3 + c, none⟩ = some (.int .u64 (Rh i c))) := fun wx hx => HH3.out wx c hcl2 (HO.out.trans hx)
      have HCs : Hid (∀ wx, Calls prog 78 #[.int .u64 (Rr c i), .int .u64 (mulI (bE i) (Rh i c) Q), .int .u64 Q] wx (Ret wx (.int .u64 (Rr c (i + 1))))) := fun wx => by rw [HRn.out]; exact zdl _ _ Q (HRu.out _ _) (zaI _ _ _) wx
      refine zae 27 [.k (.slice (some ⟨lb, 0, none⟩) N N), .k (.int .i64 (n : Int)), .k (.int .i64 (m7 : Int)), .k (.int .i64 (c : Int)), .k (.int .i64 (p7 : Int)), .k (.slice (some ⟨lb, 0, none⟩) N N), .k (.int .i64 (n : Int)), .k (.int .i64 (m7 : Int)), .k (.int .i64 (c : Int)), .k (.int .i64 (p7 : Int)), .k (.pointer (some ⟨lb, p7, none⟩)), .k (.int .u64 (Rr c i)), .k (.int .u64 (bE i)), .k (.pointer (some ⟨gb + 1 + 1, 0, none⟩)), .k (.slice (some ⟨hb, ho, none⟩) n cρ), .k (.int .i64 (i : Int)), .k (.int .i64 (c : Int)), .k (.pointer (some ⟨hb, ho + i * 3, none⟩)), .k (.pointer (some ⟨hb, ho + i * 3 + c, none⟩)), .k (.int .u64 (Rh i c)), .k (.pointer (some ⟨gb, 1, none⟩)), .k (.int .u64 Q), .k (.int .u64 (mulI (bE i) (Rh i c) Q)), .k (.pointer (some ⟨gb, 1, none⟩)), .k (.int .u64 Q), .k (.int .u64 (Rr c (i + 1))), .k (.pointer (some ⟨lb, p7, none⟩))] (Old wr) (by kernel_rfl) (by kernel_rfl) rfl ((Old.refl _).drew) ?st ?_
      case st =>
       refine .c stpz <| .c stpz <| .c (stvz HM.out) <| .c stpz <| .c (stvz HP.out) <| .c stpz <| .c stpz <| .c (stvz HM.out) <| .c stpz <| .c (stvz HP.out) <| .c (sti0z (n := N) (c := N) hp8 U29) <| .c (stlz U22 HLc.out) <| .c stpz <| .c stpz <| .c (stfz 0 U28 HDx.out) <| .c stpz <| .c stpz <| .c (stjz (n := n) (c := cρ) 3 hlt2 U28) <| .c (saiz hcl2 U63) <| .c (stlz U22 HHx.out) <| .c stpz <| .c (stfz 1 U22 HGx.out) <| .c (stKz old_R func70 (fun wx _ => zaO _ _ Q (HbU.out i) (HRhu.out i c hlt2 hcl2) wx)) <| .c stpz <| .c (stfz 1 U22 HGx.out) <| .c (stKz old_R func78 (fun wx _ => HCs.out wx)) <| .c (sti0z (n := N) (c := N) hp8 U29) .n
      intro t wy hR hk
      simp only [fill, Ent.val, zs0, zs1, zd1, zd0, zdn]
      have HNy := HN.out.old hR
      have HOy : Hid (Old W wy) := HO.out.trans hR
      have q1 := HNy.cell p7 hp8
      have f1 := HNy.free p7
      have HN2 : Hid (Full (wy.setCell ⟨lb, p7, none⟩ (.int .u64 (Rr c (i + 1)))) lb N (eH E Rr n i (c + 1))) := (HNy.set p7 (Rr c (i + 1))).congr fun k hk => by
       have h := eH_next (E := E) (Rr := Rr) (n := n) (i := i) (k := k) (c := c)
       rw [Hp7.out]
       exact h
      have HO2 : Hid (Old W (wy.setCell ⟨lb, p7, none⟩ (.int .u64 (Rr c (i + 1))))) := HOy.out.setCell (p := ⟨lb, p7, none⟩) Hlb.out _
      clear HNy HOy hR hk HN HO HGx HDx HHx HCs HLc HM HP
      go_wp2_with fail
      go_roundw
      case rel => exact ⟨c + 1, zab c, by omega, HN2, HO2⟩
      case measure => simp [intOf]; omega
     ·have hc3 : c = 3 := by omega
      subst hc3
      have HNe : Hid (Full wr lb N (eI E Rr n (i + 1))) := HN.out.congr fun k hk => eH_done (by have := HNN.out; omega)
      clear HN
      go_wp2_with fail
      go_roundw
      case rel => exact ⟨i + 1, zab i, by omega, rfl, HNe, HO⟩
      case measure => simp [intOf]; omega
  ·have he : n = i := by omega
   subst he
   have hN3 : N = 7 * n + 3 := HNN.out
   obtain ⟨p, hp⟩ : ∃ p, p = 7 * n - 1 := ⟨_, rfl⟩
   have hp8 : p < N := by omega
   have e1 : IntKind.i64.wrap (7 * (n : Int)) = 7 * (n : Int) := by rw [IntKind.wrap_i64]; omega
   have e2 : IntKind.i64.wrap (7 * (n : Int) - 1) = (p : Int) := wi8 _ p (by omega) (by omega)
   have q1 := HN.out.cell p hp8
   have f1 := HN.out.free p
   have HN2 : Hid (Full (wr.setCell ⟨lb, p, none⟩ (.int .u64 (vP n))) lb N E) := (HN.out.set p (vP n)).congr fun k hk => by
    have h := eI_done (E := E) (Rr := Rr) h1 HRe3.out (k := k) (by omega)
    rw [HVe.out, hp]
    exact h
   have HO3 : Hid (Old W (wr.setCell ⟨lb, p, none⟩ (.int .u64 (vP n)))) := HO.out.setCell (p := ⟨lb, p, none⟩) Hlb.out _
   have Hl2 : Hid (w.heap.size <= lb) := Nat.le_trans HW0.out.size Hlb.out
   clear hp hN3 HN HO
   go_wp2_with fail
   go_ret
   exact ⟨HW0.out.trans HO3.out, lb, Hl2.out, rfl, HN2.out⟩
theorem pack_two (F : NI) (n : Nat) {u v : Int} (hu : F n = u) (hv : F (n + 1) = v) : packL F (n + 2) = packL F n ++ packL (two7 u v) 2 := by
 subst hu
 subst hv
 show (packL F n ++ zap (F n) 8) ++ zap (F (n + 1)) 8 = packL F n ++ (([] ++ zap (F n) 8) ++ zap (F (n + 1)) 8)
 simp only [List.nil_append, List.append_assoc]
theorem zeT (b : OA) (m c : Nat) (C : NN) (w : World) (mm : m <= 1000) (h : BoxsIn w b m C) :
  Calls prog 131 #[.slice b m c] w (Ret w (.string (strOfNums (packL (flatF C) (6 * m))))) := by
 have HX : Hid (BoxsIn w b m C) := h
 have HNu : Hid (∀ bs u v wx, U64 u -> U64 v -> Nums wx w.heap.size (.slice (some ⟨bs, 0, none⟩) 2 2) 2 (two7 u v) -> Calls prog 130 #[.slice (some ⟨bs, 0, none⟩) 2 2] wx (Ret wx (.string (strOfNums (packL (two7 u v) 2))))) := fun bs u v wx hu hv hN => by
  obtain ⟨_, _, e, _, hf⟩ := hN.facs (fun i _ => u64_two hu hv i)
  cases e
  exact zaJ _ 2 2 _ wx (by omega) hf
 clear h
 have hadd : ∀ xs ys : List Int, strOfNums xs ++ strOfNums ys = strOfNums (xs ++ ys) := zc0
 have hsz : ∀ xs : List Int, (strOfNums xs).size = xs.length := strOfNums_size
 go_enter func131, ntmps131
 go_upto_region 3 with fail
 go_loopw [3, 4] (fun sv iv wx => ∃ i : Nat, iv = .int .i64 (i : Int) /\ i <= m /\ sv = .string (strOfNums (packL (flatF C) (6 * i))) /\ Hid (Old w wx)) (fun _ iv _ => m - (intOf iv).toNat)
 case atStart => exact ⟨0, rfl, Nat.zero_le _, rfl, Old.refl _⟩
 case round =>
  obtain ⟨i, rfl, hi, rfl, HO⟩ := hrel
  by_cases hlt : i < m
  ·go_upto_region 6 with fail
   go_loopw [3, 5] (fun sv kv wx => ∃ k : Nat, kv = .int .i64 (k : Int) /\ k <= 3 /\ sv = .string (strOfNums (packL (flatF C) (6 * i + 2 * k))) /\ Hid (Old w wx)) (fun _ kv _ => 3 - (intOf kv).toNat)
   case atStart => exact ⟨0, rfl, Nat.zero_le _, rfl, HO⟩
   case round =>
    obtain ⟨k, rfl, hk, rfl, HO2⟩ := hrel
    by_cases hkl : k < 3
    ·have k3 : (k : Int) < 3 := by omega
     rcases HX.out with h0 | ⟨bx, ox, hqx, _, hrx⟩
     ·omega
     have HU : Hid (∀ wx, Old wr wx -> wx.cell? ⟨bx, ox + i * 6 + k * 2, none⟩ = some (.int .u64 (C i (2 * k)))) := fun wx ho => by
      have := ((HO2.out.trans ho)).cellOf (hrx i hlt (2 * k) (by omega)).1
      rwa [show ox + i * 6 + 2 * k = ox + i * 6 + k * 2 by omega] at this
     have HV : Hid (∀ wx, Old wr wx -> wx.cell? ⟨bx, ox + i * 6 + k * 2 + 1, none⟩ = some (.int .u64 (C i (2 * k + 1)))) := fun wx ho => by
      have := ((HO2.out.trans ho)).cellOf (hrx i hlt (2 * k + 1) (by omega)).1
      rwa [show ox + i * 6 + (2 * k + 1) = ox + i * 6 + k * 2 + 1 by omega] at this
     have HUu : Hid (U64 (C i (2 * k)) /\ U64 (C i (2 * k + 1))) := ⟨(hrx i hlt (2 * k) (by omega)).2, (hrx i hlt (2 * k + 1) (by omega)).2⟩
     have HPk : Hid (packL (flatF C) (6 * i + 2 * (k + 1)) = packL (flatF C) (6 * i + 2 * k) ++ packL (two7 (C i (2 * k)) (C i (2 * k + 1))) 2) := by
      unfold Hid
      rw [show 6 * i + 2 * (k + 1) = 6 * i + 2 * k + 2 by omega]
      exact pack_two _ _ (zbN C i (2 * k) (by omega)) (by rw [show 6 * i + 2 * k + 1 = 6 * i + (2 * k + 1) by omega]; exact zbN C i (2 * k + 1) (by omega))
     have hws : w.heap.size <= wr.heap.size := HO2.out.size
     clear hrx
     subst hqx
     generalize C i (2 * k) = xu at *
     generalize C i (2 * k + 1) = xv at *
     have zl := zar (flatF C) (6 * i + 2 * k)
     have z8 := zar (two7 xu xv) 2
     go_upto_region 8 with fail
     refine zaa 17 [.k (.string (strOfNums (packL (flatF C) (6 * i + 2 * k)))), .k (.slice (some ⟨bx, ox, none⟩) m c), .k (.int .i64 (i : Int)), .k (.int .i64 (k : Int)), .k (.pointer (some ⟨bx, ox + i * 6, none⟩)), .k (.pointer (some ⟨bx, ox + i * 6 + k * 2, none⟩)), .k (.pointer (some ⟨bx, ox + i * 6 + k * 2, none⟩)), .k (.int .u64 xu), .k (.slice (some ⟨bx, ox, none⟩) m c), .k (.int .i64 (i : Int)), .k (.int .i64 (k : Int)), .k (.pointer (some ⟨bx, ox + i * 6, none⟩)), .k (.pointer (some ⟨bx, ox + i * 6 + k * 2, none⟩)), .k (.pointer (some ⟨bx, ox + i * 6 + k * 2 + 1, none⟩)), .k (.int .u64 xv), two8 w.heap.size xu xv, .k (.string (strOfNums (packL (two7 xu xv) 2)))] (Old wr) (by kernel_rfl) (by kernel_rfl) rfl ((Old.refl _).drew) ?st ?_
     case st =>
      refine .p <| .p <| .p <| .p <| .c (stj (n := m) (c := c) 6 hlt U26) <| .c (saj 2 hkl U74) <| .p <| .c (stl U22 HU.out) <| .p <| .p <| .p <| .c (stj (n := m) (c := c) 6 hlt U26) <| .c (saj 2 hkl U74) <| .p <| .c (stl U22 HV.out) <| .c (stm (ob := fun _ => .cells #[.int .u64 xu, .int .u64 xv] 22) (v := fun s => .slice (some ⟨s, 0, none⟩) 2 2) old_R fun t wx hR _ => ⟨_, rfl, zbG wx w.heap.size 2 [.int .u64 xu, .int .u64 xv] (two7 xu xv) (Nat.le_trans hws hR.size) (by omega) rfl⟩) <| .c (stC (args := fun t => #[t 15]) old_R func130 fun t wx hR hd => ?_) .n
      obtain ⟨bs, e, hN⟩ := hd 15 (by kernel_rfl)
      rw [e] at hN ⊢
      exact (HNu.out bs xu xv wx HUu.out.1 HUu.out.2 hN).mono fun r w' ⟨h, k⟩ => ⟨_, h, k, rfl⟩
     intro t wx hR hk_1
     simp only [fill, Ent.val, two8, zs0, zs1, zd1, zd0, zdn]
     have HOx : Hid (Old w wx) := HO2.out.trans hR
     have l1 : 8 * (6 * i + 2 * k) + 16 <= 9223372036854775807 := by omega
     have l2 : ¬ 9223372036854775807 < 8 * (6 * i + 2 * k) + 16 := by omega
     have l3 : 8 * (6 * i + 2 * k) <= 9223372036854775791 := by omega
     have l4 : ¬ 9223372036854775791 < 8 * (6 * i + 2 * k) := by omega
     clear hR hk_1 HU HV HO2
     go_wp2_with fail
     go_roundw
     case rel => exact ⟨k + 1, zab k, by omega, by rw [HPk.out], HOx⟩
     case measure => simp [intOf]; omega
    ·have hk3 : k = 3 := by omega
     subst hk3
     go_wp2_with fail
     go_roundw
     case rel => exact ⟨i + 1, zab i, by omega, rfl, HO2⟩
     case measure => simp [intOf]; omega
  ·have he : m = i := by omega
   subst he
   go_wp2_with fail
   go_ret
   exact ⟨rfl, HO.out⟩
end
section
open Go Go.RowKit
theorem zek {P : Program} {w : World} (t ty : TypeId) (base : Nat) (e : TypeId) (i : TypeInfo) (z : Value) (size bytes : Nat) (ht : P.underlying t = some (.slice e)) (hi : P.info? e = some i) (hz : i.zero = some z)
  (hsize : i.size = size) (hby : i.bytes = bytes) (hzs : z.cells.size = size) (hsz : 0 < size)
  (b : Addr) (n : Nat) (xs : List Value) (hown : w.ownsRow base e size (.slice (some b) n n) n xs) (hlo : xs.length = n * size) (holds : ∀ j v, xs[j]? = some v -> w.cell? (b.add j) = some v)
  (ad : Addr) (m c : Nat) (news : List Value) (hl : news.length = m * size) (hnews : ∀ j u, news[j]? = some u -> w.cell? (ad.add j) = some u) (h1 : ∀ u ∈ news, u.oneCell' = true)
  (hm : 0 < m) (h63 : n + m <= maxLen) (hbytes : (n + m) * bytes <= 140737488355328) (hfit : Builtin.nextslicecap (n + m) n * bytes <= 281474976710656) (hbase : base <= w.heap.size) :
  ∃ g cap w', (Builtin.append_ #[t, t] ty #[.slice (some b) n n, .slice (some ad) m c]).run P w = .ok (.slice (some ⟨g, 0, none⟩) (n + m) cap) w' /\
   w'.ownsRow base e size (.slice (some ⟨g, 0, none⟩) (n + m) cap) (n + m) (xs ++ news) /\ Old w w' := by
 obtain ⟨g, cap, w', hr, h2, _, _, _⟩ := run_append_lies (P := P) (w := w) t ty base e i z size bytes ht hi hz hsize hby hzs hsz _ n xs hown ad m c news hl hnews h1 hm h63 hbytes hbase _ rfl
 have hr2 := run_append_grow (P := P) (w := w) t ty e i z ht hi hz b n n xs (by rw [hsize]; exact hlo) holds ad m c news (by rw [hsize]; exact hl) hnews (by omega) (by unfold maxLen at h63; omega) (by rw [hby]; exact hfit)
 rw [hr2] at hr
 simp only [Result.ok.injEq] at hr
 obtain ⟨e1, e2⟩ := hr
 refine ⟨g, cap, w', ?_, h2, ?_⟩
 ·rw [hr2, e1, e2]
 ·rw [<- e2]
  exact ((Old.refl w).drew).alloc _
variable {P : Program} {ops : List Oper} {L0 : List Value} {E : List Ent} {R : World -> Prop} {e : Ent}
theorem stA {dst : Option Tmp} {ty : TypeId} {pos : String} {after : Array Edge} {s x : Operand} {T el : TypeId} {i : TypeInfo} {z : Value} {size bytes : Nat} (n m : Nat) (hR : ∀ w w', R w -> Old w w' -> R w') (ht : P.underlying T = some (.slice el)) (hi : P.info? el = some i /\ i.zero = some z /\ i.size = size /\ i.bytes = bytes) (hzs : z.cells.size = size) (hsz : 0 < size)
  (hm : 0 < m) (h63 : n + m <= maxLen) (hbytes : (n + m) * bytes <= 140737488355328) (hfit : Builtin.nextslicecap (n + m) n * bytes <= 281474976710656) {vs vx : (Nat -> Value) -> Value}
  (h : ∀ (t : Nat -> Value) (wx : World), R wx -> (∀ k, needs ⟨dst, .call { callee := .builtin .append, args := #[s, x], argTypes := #[T, T] }, ty, pos, after, none⟩ k = true -> okAt E k (t k) wx) -> ∃ base b xs ad c news, vs t = .slice (some b) n n /\ wx.ownsRow base el size (.slice (some b) n n) n xs /\ xs.length = n * size /\ (∀ j v, xs[j]? = some v -> wx.cell? (b.add j) = some v) /\ vx t = .slice (some ad) m c /\ news.length = m * size /\ (∀ j u, news[j]? = some u -> wx.cell? (ad.add j) = some u) /\ (∀ u ∈ news, u.oneCell' = true) /\ base <= wx.heap.size /\
   ∀ g cap w', w'.ownsRow base el size (.slice (some ⟨g, 0, none⟩) (n + m) cap) (n + m) (xs ++ news) -> Old wx w' -> e.ok (.slice (some ⟨g, 0, none⟩) (n + m) cap) w')
  (hs : ∀ t, Act.eval ⟨(fill ops E t 0 L0).toArray, []⟩ s = vs t := by intro _; kernel_rfl) (hx : ∀ t, Act.eval ⟨(fill ops E t 0 L0).toArray, []⟩ x = vx t := by intro _; kernel_rfl) :
  StepT P ops L0 E R ⟨dst, .call { callee := .builtin .append, args := #[s, x], argTypes := #[T, T] }, ty, pos, after, none⟩ e := by
 refine ⟨fun t wx hRx hd => ?_⟩
 show PostT P E R e wx _
 obtain ⟨base, b, xs, ad, c, news, e1, k1, k2, k3, e2, k4, k5, k6, k7, hok⟩ := h t wx hRx hd
 obtain ⟨g, cap, w', hr, h2, ho⟩ := zek (P := P) (w := wx) T ty base el i z size bytes ht hi.1 hi.2.1 hi.2.2.1 hi.2.2.2 hzs hsz b n xs k1 k2 k3 ad m c news k4 k5 k6 hm h63 hbytes hfit k7
 have hrun : (execOp (Act.eval ⟨(fill ops E t 0 L0).toArray, []⟩) ⟨dst, .call { callee := .builtin .append, args := #[s, x], argTypes := #[T, T] }, ty, pos, after, none⟩).run P wx = .ok (.value (.slice (some ⟨g, 0, none⟩) (n + m) cap)) w' := by
  unfold execOp
  simp only [resolve, invoke, builtin, Sem.run_bind, Sem.run_pure, Result.andThen_ok, List.map_toArray, List.map_cons, List.map_nil, hs t, hx t, e1, e2, hr]
 rw [hrun]
 exact ResT.old hR hRx ho (hok g cap w' h2 ho)
end
section
open Go Go.RowKit
theorem zbH {w w' : World} {base : Nat} {e : TypeId} {sz n : Nat} {v : Value} {xs : List Value} (h : w.ownsRow base e sz v n xs) (ho : Old w w') : w'.ownsRow base e sz v n xs := by
 refine ⟨h.1, ?_⟩
 rcases h.2 with hn | ⟨g, cap, cur, hv, hb, hg, rest⟩
 ·exact Or.inl hn
 ·exact Or.inr ⟨g, cap, cur, hv, hb, (ho.block g (Array.getElem?_eq_some_iff.1 hg).1).trans hg, rest⟩
def strE (base n : Nat) (S : Nat -> List Int) : Ent := .u (fun v w => ∃ b, v = .slice (some ⟨b, 0, none⟩) n n /\ w.ownsRow base 9 1 (.slice (some ⟨b, 0, none⟩) n n) n (zah S n)) fun _ _ _ ⟨b, e, h⟩ ho => ⟨b, e, zbH h ho⟩
def strG (base n : Nat) (S : Nat -> List Int) : Ent := .u (fun v w => ∃ b c, v = .slice (some ⟨b, 0, none⟩) n c /\ w.ownsRow base 9 1 (.slice (some ⟨b, 0, none⟩) n c) n (zah S n)) fun _ _ _ ⟨b, c, e, h⟩ ho => ⟨b, c, e, zbH h ho⟩
theorem str_cat {S S' S'' : Nat -> List Int} {n m : Nat} (h1 : ∀ i, i < n -> S'' i = S i) (h2 : ∀ i, i < m -> S'' (n + i) = S' i) : zah S n ++ zah S' m = zah S'' (n + m) := by
 unfold zah
 rw [List.range_add, List.map_append, List.map_map]
 congr 1
 ·exact List.map_congr_left fun i hi => by rw [h1 i (List.mem_range.1 hi)]
 ·exact List.map_congr_left fun i hi => by simp only [Function.comp]; rw [h2 i (List.mem_range.1 hi)]
theorem str_row {w : World} {base b n c : Nat} {S : Nat -> List Int} (h : w.ownsRow base 9 1 (.slice (some ⟨b, 0, none⟩) n c) n (zah S n)) : ∀ j v, (zah S n)[j]? = some v -> w.cell? ((⟨b, 0, none⟩ : Addr).add j) = some v := fun j v hv => by
 have hadd : (⟨b, 0, none⟩ : Addr).add j = ⟨b, j, none⟩ := by unfold Addr.add; split <;> simp_all
 have hj : j < n := by have := (List.getElem?_eq_some_iff.1 hv).1; simpa [zah] using this
 rw [hadd, World.ownsRow.cellAt h j (by omega), hv]
theorem str_app {w : World} {base base' n m sb sc : Nat} {S S' S'' : Nat -> List Int} {v vx : Value} (hv : ∃ b, v = .slice (some ⟨b, 0, none⟩) n n /\ w.ownsRow base 9 1 (.slice (some ⟨b, 0, none⟩) n n) n (zah S n)) (hx : vx = .slice (some ⟨sb, 0, none⟩) m sc) (hs : w.ownsRow base' 9 1 (.slice (some ⟨sb, 0, none⟩) m sc) m (zah S' m)) (hb : base <= w.heap.size) (h1 : ∀ i, i < n -> S'' i = S i) (h2 : ∀ i, i < m -> S'' (n + i) = S' i) :
  ∃ be b xs ad c news, v = .slice (some b) n n /\ w.ownsRow be 9 1 (.slice (some b) n n) n xs /\ xs.length = n * 1 /\ (∀ j v, xs[j]? = some v -> w.cell? (b.add j) = some v) /\ vx = .slice (some ad) m c /\ news.length = m * 1 /\ (∀ j u, news[j]? = some u -> w.cell? (ad.add j) = some u) /\ (∀ u ∈ news, u.oneCell' = true) /\ be <= w.heap.size /\
   ∀ g cap w', w'.ownsRow be 9 1 (.slice (some ⟨g, 0, none⟩) (n + m) cap) (n + m) (xs ++ news) -> Old w w' -> (strG base (n + m) S'').ok (.slice (some ⟨g, 0, none⟩) (n + m) cap) w' := by
 obtain ⟨b, e, h⟩ := hv
 refine ⟨base, ⟨b, 0, none⟩, zah S n, ⟨sb, 0, none⟩, sc, zah S' m, e, h, by simp [zah], str_row h, hx, by simp [zah], str_row hs, fun u hu => ?_, hb, fun g cap w' h3 _ => ⟨g, cap, rfl, ?_⟩⟩
 ·simp only [zah, List.mem_map] at hu
  obtain ⟨i, _, rfl⟩ := hu
  rfl
 ·rw [str_cat h1 h2] at h3
  exact h3
theorem str_in {w : World} {base b n c : Nat} {S : Nat -> List Int} (h : w.ownsRow base 9 1 (.slice (some ⟨b, 0, none⟩) n c) n (zah S n)) (hS : ∀ i, i < n -> Bts (S i)) : StrsIn w (some ⟨b, 0, none⟩) n S :=
 Or.inr ⟨b, 0, rfl, (World.ownsRow.lt h b rfl).2, fun i hi => ⟨by rw [Nat.zero_add, World.ownsRow.cellAt h i (by omega)]; simp [zah, hi], hS i hi⟩⟩
def comS (P Q G H y : Int) (l : Nat) (C : NN) (no : Nat) (O : NN) (na : Nat) (A : NI) : Nat -> List Int
 | 0 => packL (fiv8 P Q G H y) 5
 | 1 => packL (flatF C) (6 * l)
 | 2 => packL (flatF O) (6 * no)
 | _ => packL A na
def morS (S : Nat -> List Int) (nb : Nat) (B : NI) : Nat -> List Int := fun i => if i < 4 then S i else packL B nb
def namS (c : Int) (S : Nat -> List Int) : Nat -> List Int
 | 0 => [c]
 | i + 1 => S i
theorem numL_le8 {label : List Int} {S : Nat -> List Int} {M : Nat} (h : ∀ i, (S i).length <= M) : ∀ n, (numL label S n).length <= 8 + label.length + n * (8 + M)
 | 0 => by show (zap _ 8 ++ label).length <= _; rw [List.length_append, zal]; omega
 | n + 1 => by
  show (numL label S n ++ (zap _ 8 ++ S n)).length <= _
  have h1 := numL_le8 (label := label) h n
  have h2 := h n
  rw [List.length_append, List.length_append, zal, Nat.add_mul]
  omega
theorem comS_bd (P Q G H y : Int) (l : Nat) (C : NN) (no : Nat) (O : NN) (na : Nat) (A : NI) : ∀ i, Bts (comS P Q G H y l C no O na A i)
 | 0 => zaU _ _
 | 1 => zaU _ _
 | 2 => zaU _ _
 | _ + 3 => zaU _ _
theorem comS_len (P Q G H y : Int) {l : Nat} (C : NN) {no : Nat} (O : NN) {na : Nat} (A : NI) (hl : l <= 80) (hn : no <= 80) (ha : na <= 400) : ∀ i, (comS P Q G H y l C no O na A i).length <= 4000
 | 0 => by show (packL _ _).length <= _; rw [zar]; omega
 | 1 => by show (packL _ _).length <= _; rw [zar]; omega
 | 2 => by show (packL _ _).length <= _; rw [zar]; omega
 | _ + 3 => by show (packL _ _).length <= _; rw [zar]; omega
theorem morS_bd {S : Nat -> List Int} (h : ∀ i, Bts (S i)) (nb : Nat) (B : NI) : ∀ i, Bts (morS S nb B i) := fun i => by unfold morS; split; exact h i; exact zaU _ _
theorem morS_len {S : Nat -> List Int} (h : ∀ i, (S i).length <= 4000) {nb : Nat} (hb : nb <= 400) (B : NI) : ∀ i, (morS S nb B i).length <= 4000 := fun i => by unfold morS; split; exact h i; rw [zar]; omega
theorem namS_bd {c : Int} (hc : 0 <= c /\ c <= 255) {S : Nat -> List Int} (h : ∀ i, Bts (S i)) : ∀ i, Bts (namS c S i)
 | 0 => fun x hx => by rcases List.mem_singleton.1 hx with rfl; omega
 | i + 1 => h i
theorem namS_len {c : Int} {S : Nat -> List Int} (h : ∀ i, (S i).length <= 4000) : ∀ i, (namS c S i).length <= 4000
 | 0 => by show ([c] : List Int).length <= _; simp
 | i + 1 => h i
theorem rchal8_any (P Q G H : Int) (a : OA) (n cap : Nat) (label : List Int) (y : Int) (bi : OA) (l ci : Nat) (C : NN) (bo : OA) (no co : Nat) (O : NN) (ba : OA) (na ca : Nat) (A : NI) (bb : OA) (nb cb : Nat) (B : NI) (bp : OA) (np cp : Nat) (bk : OA) (nk ck : Nat) (bz : OA) (nz cz : Nat) (w : World) (h4 : Four P Q G H) (hlb : Bts label) (hll : label.length <= 1000) (hy : U64 y) (ml : l <= 80) (mo : no <= 80) (ma : na <= 400) (mb : nb <= 400) (hC : BoxsIn w bi l C) (hO : BoxsIn w bo no O) (hA : FacsIn w ba na A) (hB : FacsIn w bb nb B) :
  Calls prog 91 #[gv P Q G H a n cap, .string (strOfNums label), .int .u64 y, .slice bi l ci, .slice bo no co, .agg #[.slice ba na ca, .slice bb nb cb, .slice bp np cp, .slice bk nk ck, .slice bz nz cz]] w (Ret w (.tuple #[.int .u64 (zaj label (namS 120 (comS P Q G H y l C no O na A)) 5 Q), .int .u64 (zaj label (namS 121 (morS (comS P Q G H y l C no O na A) nb B)) 6 Q), .int .u64 (zaj label (namS 122 (morS (comS P Q G H y l C no O na A) nb B)) 6 Q)])) := by
 obtain ⟨i0, hi0, hz0, hz1, hz2⟩ := info_parts strinfo
 obtain ⟨S4, hS4⟩ : ∃ S4, S4 = comS P Q G H y l C no O na A := ⟨_, rfl⟩
 have HNf : Hid (∀ wx v base, Nums wx base v 5 (fiv8 P Q G H y) -> Calls prog 130 #[v] wx (Ret wx (.string (strOfNums (S4 0))))) := fun wx v base hN => by
  obtain ⟨b, c, rfl, _, hf⟩ := hN.facs (fun i _ => by match i with | 0 => exact ⟨h4.p0, h4.p1⟩ | 1 => exact ⟨h4.q0, h4.q1⟩ | 2 => exact ⟨h4.g0, h4.g1⟩ | 3 => exact ⟨h4.h0, h4.h1⟩ | _ + 4 => exact hy)
  rw [hS4]
  exact zaJ b 5 c _ wx (by omega) hf
 have HFi : Hid (∀ wx, Old w wx -> Calls prog 131 #[.slice bi l ci] wx (Ret wx (.string (strOfNums (S4 1))))) := fun wx ho => by rw [hS4]; exact zeT bi l ci C wx (by omega) (hC.old ho)
 have HFo : Hid (∀ wx, Old w wx -> Calls prog 131 #[.slice bo no co] wx (Ret wx (.string (strOfNums (S4 2))))) := fun wx ho => by rw [hS4]; exact zeT bo no co O wx (by omega) (hO.old ho)
 have HNa : Hid (∀ wx, Old w wx -> Calls prog 130 #[.slice ba na ca] wx (Ret wx (.string (strOfNums (S4 3))))) := fun wx ho => by rw [hS4]; exact zaJ ba na ca A wx (by omega) (hA.old ho)
 have HNb := hid fun wx (ho : Old w wx) => zaJ bb nb cb B wx (by omega) (hB.old ho)
 have HSb : ∀ i, Bts (S4 i) := fun i => by rw [hS4]; exact comS_bd _ _ _ _ _ _ _ _ _ _ _ i
 have HSl : ∀ i, (S4 i).length <= 4000 := fun i => by rw [hS4]; exact comS_len P Q G H y C O A ml mo ma i
 rw [<- hS4]
 clear hS4
 obtain ⟨S5, hS5⟩ : ∃ S5, S5 = morS S4 nb B := ⟨_, rfl⟩
 have HS5 := hid hS5
 have HTb : ∀ i, Bts (S5 i) := fun i => by rw [hS5]; exact morS_bd HSb nb B i
 have HTl : ∀ i, (S5 i).length <= 4000 := fun i => by rw [hS5]; exact morS_len HSl mb B i
 rw [<- hS5]
 clear hS5
 have HNum : Hid (∀ (c : Int) (S : Nat -> List Int) (n : Nat) wx b base cap, (0 <= c /\ c <= 255) -> (∀ i, Bts (S i)) -> (∀ i, (S i).length <= 4000) -> n <= 6 -> wx.ownsRow base 9 1 (.slice (some ⟨b, 0, none⟩) n cap) n (zah (namS c S) n) -> Calls prog 132 #[.string (strOfNums label), .slice (some ⟨b, 0, none⟩) n cap, .int .u64 Q] wx (Ret wx (.int .u64 (zaj label (namS c S) n Q)))) := fun c S n wx b base cap hc hb hl hn ho => zeO label _ n cap _ Q wx hlb (str_in ho fun i _ => namS_bd hc hb i) (by omega) (by
  have h := numL_le8 (label := label) (namS_len (c := c) hl) n
  have : n * (8 + 4000) <= 6 * 4008 := Nat.mul_le_mul_right _ hn
  omega) h4.q0 h4.q1
 have HNx := hid fun wx b base cap (h : wx.ownsRow base 9 1 (.slice (some ⟨b, 0, none⟩) 5 cap) 5 (zah (namS 120 S4) 5)) => HNum.out 120 S4 5 wx b base cap (by omega) HSb HSl (by omega) h
 have HNy : Hid (∀ (c : Int) wx b base cap, (0 <= c /\ c <= 255) -> wx.ownsRow base 9 1 (.slice (some ⟨b, 0, none⟩) 6 cap) 6 (zah (namS c S5) 6) -> Calls prog 132 #[.string (strOfNums label), .slice (some ⟨b, 0, none⟩) 6 cap, .int .u64 Q] wx (Ret wx (.int .u64 (zaj label (namS c S5) 6 Q)))) := fun c wx b base cap hc h => HNum.out c S5 6 wx b base cap hc HTb HTl (by omega) h
 generalize zaj label (namS 120 S4) 5 Q = X at *
 have HNy1 := hid fun wx b base cap (h : wx.ownsRow base 9 1 (.slice (some ⟨b, 0, none⟩) 6 cap) 6 (zah (namS 121 S5) 6)) => HNy.out 121 wx b base cap (by omega) h
 have HNy2 := hid fun wx b base cap (h : wx.ownsRow base 9 1 (.slice (some ⟨b, 0, none⟩) 6 cap) 6 (zah (namS 122 S5) 6)) => HNy.out 122 wx b base cap (by omega) h
 clear HNy HNum
 generalize zaj label (namS 121 S5) 6 Q = Y at *
 generalize zaj label (namS 122 S5) 6 Q = Z at *
 clear HSb HSl HTb HTl hC hO hA hB hlb hll h4 hy
 have HZ := lain2 w (gc P Q G H a n cap) #[.slice ba na ca, .slice bb nb cb, .slice bp np cp, .slice bk nk ck, .slice bz nz cz] 25 57
 have HG0 := fun w' ho => (HZ.then (W' := w') ho).row 0 (by simp)
 have HT0 := fun w' ho => (HZ.then (W' := w') ho).row 1 (by simp)
 have HW0 := hid HZ.old
 clear HZ
 go_enter func91, ntmps91
 go_upto_region 1 with fail
 generalize ((w.alloc (.cells (gc P Q G H a n cap) 25)).alloc (.cells #[.slice ba na ca, .slice bb nb cb, .slice bp np cp, .slice bk nk ck, .slice bz nz cz] 57)) = W at *
 have HG := hid HG0
 have HT := hid HT0
 clear HG0 HT0
 generalize w.heap.size = gb at *
 refine zaa 19 [.k (.pointer (some ⟨gb, 0, none⟩)), .k (.int .u64 P), .k (.pointer (some ⟨gb, 1, none⟩)), .k (.int .u64 Q), .k (.pointer (some ⟨gb, 2, none⟩)), .k (.int .u64 G), .k (.pointer (some ⟨gb, 3, none⟩)), .k (.int .u64 H), .k (.int .u64 y), numL8 W.heap.size 5 (fiv8 P Q G H y), .k (.string (strOfNums (S4 0))), .k (.slice bi l ci), .k (.string (strOfNums (S4 1))), .k (.slice bo no co), .k (.string (strOfNums (S4 2))), .k (.pointer (some ⟨gb + 1, 0, none⟩)), .k (.slice ba na ca), .k (.string (strOfNums (S4 3))), strE W.heap.size 4 S4] (Old W) (by kernel_rfl) (by kernel_rfl) rfl ((Old.refl _).drew) ?st ?_
 case st =>
  refine .p <| .c (stf 0 U22 HG.out) <| .p <| .c (stf 1 U22 HG.out) <| .p <| .c (stf 2 U22 HG.out) <| .p <| .c (stf 3 U22 HG.out) <| .p <| .c (stm (ob := fun _ => .cells #[.int .u64 P, .int .u64 Q, .int .u64 G, .int .u64 H, .int .u64 y] 22) (v := fun s => .slice (some ⟨s, 0, none⟩) 5 5) old_R fun t wx hR _ => zbG wx W.heap.size 5 [.int .u64 P, .int .u64 Q, .int .u64 G, .int .u64 H, .int .u64 y] (fiv8 P Q G H y) hR.size (by omega) rfl) <| .c (stC (args := fun t => #[t 9]) old_R func130 fun t wx hR hd => ?_) <| .p <| .c (stK old_R func131 (fun wx hx => HFi.out wx (HW0.out.trans hx))) <| .p <| .c (stK old_R func131 (fun wx hx => HFo.out wx (HW0.out.trans hx))) <| .p <| .c (stf 0 U29 HT.out) <| .c (stK old_R func130 (fun wx hx => HNa.out wx (HW0.out.trans hx))) <| .c (stm (ob := fun _ => .cells #[.string (strOfNums (S4 0)), .string (strOfNums (S4 1)), .string (strOfNums (S4 2)), .string (strOfNums (S4 3))] 9) (v := fun s => .slice (some ⟨s, 0, none⟩) 4 4) old_R fun t wx hR _ => ⟨_, rfl, World.ownsRow_lit wx #[.string (strOfNums (S4 0)), .string (strOfNums (S4 1)), .string (strOfNums (S4 2)), .string (strOfNums (S4 3))] 4 hR.size (by unfold maxLen; omega) rfl⟩) .n
  exact (HNf.out _ _ _ (hd 9 (by kernel_rfl))).mono fun r w' ⟨h, k⟩ => ⟨_, h, k, rfl⟩
 intro t wx hR hk
 simp only [fill, Ent.val, numL8, strE, zs0, zs1, zd1, zd0, zdn]
 obtain ⟨cm, ecm, hcm⟩ : ∃ b, t 18 = .slice (some ⟨b, 0, none⟩) 4 4 /\ wx.ownsRow W.heap.size 9 1 (.slice (some ⟨b, 0, none⟩) 4 4) 4 (zah S4 4) := hk 18 (by omega)
 rw [ecm]
 go_upto_region 2 with fail
 have HO2 := hid hR
 have HCm := hid fun wy (ho : Old wx wy) => zbH hcm ho
 have HSi := (show Hid (_ /\ _ /\ _ /\ _) from ⟨hi0, hz0, hz1, hz2⟩)
 clear hR hk ecm hcm HNf HFi HFo HNa
 clear hi0 hz0 hz1 hz2
 generalize wx = W2 at *
 have HG2 := hid fun wx (ho : Old W2 wx) => HG.out _ (HO2.out.trans ho)
 have HT2 := hid fun wx (ho : Old W2 wx) => HT.out _ (HO2.out.trans ho)
 refine zaa 7 [strE W2.heap.size 0 S4, .k (.slice (some ⟨cm, 0, none⟩) 4 4), strG W2.heap.size (0 + 4) S4, .k (.pointer (some ⟨gb + 1, 1, none⟩)), .k (.slice bb nb cb), .k (.string (strOfNums (packL B nb))), strE W2.heap.size 1 (fun _ => packL B nb)] (Old W2) (by kernel_rfl) (by kernel_rfl) rfl ((Old.refl _).drew) ?st ?_
 case st =>
  refine .c (stm (ob := fun _ => .cells #[] 9) (v := fun s => .slice (some ⟨s, 0, none⟩) 0 0) old_R fun t wx hR _ => ⟨_, rfl, World.ownsRow_lit wx #[] 0 hR.size (by unfold maxLen; omega) rfl⟩) <| .p <| .c (stA 0 4 (vs := fun t => t 0) (vx := fun t => .slice (some ⟨cm, 0, none⟩) 4 4) old_R U143 HSi.out rfl (by decide) (by decide) (by decide) (by decide) (by decide) fun t wx hR hd => str_app (base := W2.heap.size) (hd 0 (by kernel_rfl)) rfl (HCm.out wx hR) hR.size (fun i hi => by omega) (fun i hi => by rw [Nat.zero_add])) <| .p <| .c (stf 1 U29 HT2.out) <| .c (stK old_R func130 (fun wx hx => HNb.out wx ((HW0.out.trans HO2.out).trans hx))) <| .c (stm (ob := fun _ => .cells #[.string (strOfNums (packL B nb))] 9) (v := fun s => .slice (some ⟨s, 0, none⟩) 1 1) old_R fun t wx hR _ => ⟨_, rfl, World.ownsRow_lit wx #[.string (strOfNums (packL B nb))] 1 hR.size (by unfold maxLen; omega) rfl⟩) .n
 intro t_1 wy hR hk
 simp only [fill, Ent.val, strG, strE, zs0, zs1, zd1, zd0, zdn]
 obtain ⟨g2, c2, e2, h2⟩ : ∃ b c, t_1 2 = .slice (some ⟨b, 0, none⟩) 4 c /\ wy.ownsRow W2.heap.size 9 1 (.slice (some ⟨b, 0, none⟩) 4 c) 4 (zah S4 4) := hk 2 (by omega)
 obtain ⟨l2, e6, h6⟩ : ∃ b, t_1 6 = .slice (some ⟨b, 0, none⟩) 1 1 /\ wy.ownsRow W2.heap.size 9 1 (.slice (some ⟨b, 0, none⟩) 1 1) 1 (zah (fun _ => packL B nb) 1) := hk 6 (by omega)
 rw [e2, e6]
 have HOy := hid hR
 have hyz : W2.heap.size <= wy.heap.size := hR.size
 obtain ⟨hi0, hz0, hz1, hz2⟩ := HSi.out
 clear hk hR e2 e6
 go_wp2_with (at_builtin; refine wpList_append_lies _ rfl _ _ 143 rfl W2.heap.size 9 i0 _ 1 16 U143 hi0 hz0 hz1 hz2 rfl (by decide) _ _ _ rfl h2 ⟨l2, 0, none⟩ 1 1 (zah (fun _ => packL B nb) 1) rfl rfl ?c1 ?c2 (by decide) ?c3 ?c4 hyz _ rfl ?_)
 case c1 => exact str_row h6
 case c2 => intro u hu; simp [zah] at hu; rcases hu with rfl; rfl
 case c3 => unfold maxLen; omega
 case c4 => omega
 intro g3 c3 w3 hown3 hgrow3 hat3 _
 have HM3 : Hid (w3.ownsRow W2.heap.size 9 1 (.slice (some ⟨g3, 0, none⟩) 5 c3) 5 (zah S5 5)) := by
  have h := str_cat (S := S4) (S' := fun _ => packL B nb) (S'' := S5) (n := 4) (m := 1) (fun i hi => by rw [HS5.out]; unfold morS; rw [if_pos hi]) (fun i hi => by rw [HS5.out]; unfold morS; rw [if_neg (by omega)])
  rw [h] at hown3
  exact hown3
 have HO3 := hid (HOy.out.grown hgrow3 fun q hq => (World.ownsRow.lt h2 q hq).1)
 clear hown3 hgrow3 hat3 h2 h6 hyz HOy hi0 hz0 hz1 hz2 HNb
 go_upto_region 3 with fail
 have HC3 := hid fun wx (ho : Old w3 wx) => HCm.out wx (HO3.out.trans ho)
 have HO30 := hid (HO2.out.trans HO3.out)
 clear HCm HG2 HT2 HO3 HS5 HT
 have HGk3 := hid fun wx (ho : Old w3 wx) => HG.out _ (HO30.out.trans ho)
 refine zaa 6 [.k (.string (strOfNums label)), strE w3.heap.size 1 (fun _ => [120]), .k (.slice (some ⟨cm, 0, none⟩) 4 4), strG w3.heap.size (1 + 4) (namS 120 S4), .k (.pointer (some ⟨gb, 1, none⟩)), .k (.int .u64 Q)] (Old w3) (by kernel_rfl) (by kernel_rfl) rfl ((Old.refl _).drew) ?st ?_
 case st =>
  refine .p <| .c (stm (ob := fun _ => .cells #[.string (strOfNums [120])] 9) (v := fun s => .slice (some ⟨s, 0, none⟩) 1 1) old_R fun t wx hR _ => ⟨_, rfl, World.ownsRow_lit wx #[.string (strOfNums [120])] 1 hR.size (by unfold maxLen; omega) rfl⟩) <| .p <| .c (stA 1 4 (vs := fun t => t 1) (vx := fun t => .slice (some ⟨cm, 0, none⟩) 4 4) old_R U143 HSi.out rfl (by decide) (by decide) (by decide) (by decide) (by decide) fun t wx hR hd => str_app (base := w3.heap.size) (hd 1 (by kernel_rfl)) rfl (HC3.out wx hR) hR.size (fun i hi => by rw [show i = 0 by omega]; rfl) (fun i hi => by rw [Nat.add_comm 1 i]; rfl)) <| .p <| .c (stf 1 U22 HGk3.out) .n
 intro tk3 wy hR hk
 simp only [fill, Ent.val, strG, strE, zs0, zs1, zd1, zd0, zdn]
 obtain ⟨bq3, cq3, eq3, hq3⟩ : ∃ b c, tk3 3 = .slice (some ⟨b, 0, none⟩) 5 c /\ wy.ownsRow w3.heap.size 9 1 (.slice (some ⟨b, 0, none⟩) 5 c) 5 (zah (namS 120 S4) 5) := hk 3 (by omega)
 rw [eq3]
 have HOq := hid hR
 clear hk hR eq3 HGk3
 go_upto_region 4 with (go_at_call 132; refine (HNx.out _ _ _ _ hq3).mono ?_; rintro e w4 ⟨rfl, oq⟩)
 have HO40 := hid ((HO30.out.trans HOq.out).trans oq)
 have HM4 := hid (zbH HM3.out (HOq.out.trans oq))
 clear oq HOq hq3 HM3 HO30 HNx
 clear HC3
 have HGk4 := hid fun wx (ho : Old w4 wx) => HG.out _ (HO40.out.trans ho)
 refine zaa 6 [.k (.string (strOfNums label)), strE w4.heap.size 1 (fun _ => [121]), .k (.slice (some ⟨g3, 0, none⟩) 5 c3), strG w4.heap.size (1 + 5) (namS 121 S5), .k (.pointer (some ⟨gb, 1, none⟩)), .k (.int .u64 Q)] (Old w4) (by kernel_rfl) (by kernel_rfl) rfl ((Old.refl _).drew) ?st ?_
 case st =>
  refine .p <| .c (stm (ob := fun _ => .cells #[.string (strOfNums [121])] 9) (v := fun s => .slice (some ⟨s, 0, none⟩) 1 1) old_R fun t wx hR _ => ⟨_, rfl, World.ownsRow_lit wx #[.string (strOfNums [121])] 1 hR.size (by unfold maxLen; omega) rfl⟩) <| .p <| .c (stA 1 5 (vs := fun t => t 1) (vx := fun t => .slice (some ⟨g3, 0, none⟩) 5 c3) old_R U143 HSi.out rfl (by decide) (by decide) (by decide) (by decide) (by decide) fun t wx hR hd => str_app (base := w4.heap.size) (hd 1 (by kernel_rfl)) rfl (zbH HM4.out hR) hR.size (fun i hi => by rw [show i = 0 by omega]; rfl) (fun i hi => by rw [Nat.add_comm 1 i]; rfl)) <| .p <| .c (stf 1 U22 HGk4.out) .n
 intro tk4 wy hR hk
 simp only [fill, Ent.val, strG, strE, zs0, zs1, zd1, zd0, zdn]
 obtain ⟨bq4, cq4, eq4, hq4⟩ : ∃ b c, tk4 3 = .slice (some ⟨b, 0, none⟩) 6 c /\ wy.ownsRow w4.heap.size 9 1 (.slice (some ⟨b, 0, none⟩) 6 c) 6 (zah (namS 121 S5) 6) := hk 3 (by omega)
 rw [eq4]
 have HOq := hid hR
 clear hk hR eq4 HGk4
 go_upto_region 5 with (go_at_call 132; refine (HNy1.out _ _ _ _ hq4).mono ?_; rintro e w5 ⟨rfl, oq⟩)
 have HO50 := hid ((HO40.out.trans HOq.out).trans oq)
 have HM5 := hid (zbH HM4.out (HOq.out.trans oq))
 clear oq HOq hq4 HM4 HO40 HNy1
 have HGk5 := hid fun wx (ho : Old w5 wx) => HG.out _ (HO50.out.trans ho)
 refine zaa 6 [.k (.string (strOfNums label)), strE w5.heap.size 1 (fun _ => [122]), .k (.slice (some ⟨g3, 0, none⟩) 5 c3), strG w5.heap.size (1 + 5) (namS 122 S5), .k (.pointer (some ⟨gb, 1, none⟩)), .k (.int .u64 Q)] (Old w5) (by kernel_rfl) (by kernel_rfl) rfl ((Old.refl _).drew) ?st ?_
 case st =>
  refine .p <| .c (stm (ob := fun _ => .cells #[.string (strOfNums [122])] 9) (v := fun s => .slice (some ⟨s, 0, none⟩) 1 1) old_R fun t wx hR _ => ⟨_, rfl, World.ownsRow_lit wx #[.string (strOfNums [122])] 1 hR.size (by unfold maxLen; omega) rfl⟩) <| .p <| .c (stA 1 5 (vs := fun t => t 1) (vx := fun t => .slice (some ⟨g3, 0, none⟩) 5 c3) old_R U143 HSi.out rfl (by decide) (by decide) (by decide) (by decide) (by decide) fun t wx hR hd => str_app (base := w5.heap.size) (hd 1 (by kernel_rfl)) rfl (zbH HM5.out hR) hR.size (fun i hi => by rw [show i = 0 by omega]; rfl) (fun i hi => by rw [Nat.add_comm 1 i]; rfl)) <| .p <| .c (stf 1 U22 HGk5.out) .n
 intro tk5 wy hR hk
 simp only [fill, Ent.val, strG, strE, zs0, zs1, zd1, zd0, zdn]
 obtain ⟨bq5, cq5, eq5, hq5⟩ : ∃ b c, tk5 3 = .slice (some ⟨b, 0, none⟩) 6 c /\ wy.ownsRow w5.heap.size 9 1 (.slice (some ⟨b, 0, none⟩) 6 c) 6 (zah (namS 122 S5) 6) := hk 3 (by omega)
 rw [eq5]
 have HOq := hid hR
 clear hk hR eq5 HGk5
 go_upto_region 6 with (go_at_call 132; refine (HNy2.out _ _ _ _ hq5).mono ?_; rintro e w6 ⟨rfl, oq⟩)
 have HO60 := hid ((HO50.out.trans HOq.out).trans oq)
 have HM6 := hid (zbH HM5.out (HOq.out.trans oq))
 clear oq HOq hq5 HM5 HO50 HNy2
 go_wp2_with fail
 go_ret3
 exact ⟨rfl, HW0.out.trans HO60.out⟩
theorem chx8_eq (label : List Int) (P Q G H y : Int) (l : Nat) (C : NN) (no : Nat) (O : NN) (n : Nat) (A : NI) : zaj label (namS 120 (comS P Q G H y l C no O n A)) 5 Q = chX label Q (knwS P Q G H y l C no O) n A := by
 unfold chX
 exact zbh fun i hi => by
  match i, hi with
  | 0, _ => rfl
  | 1, _ => rfl
  | 2, _ => rfl
  | 3, _ => rfl
  | 4, _ => rfl
theorem chyz8_eq (c : Int) (label : List Int) (P Q G H y : Int) (l : Nat) (C : NN) (no : Nat) (O : NN) (n : Nat) (A B : NI) : zaj label (namS c (morS (comS P Q G H y l C no O n A) n B)) 6 Q = chYZ c label Q (knwS P Q G H y l C no O) n A B := by
 unfold chYZ
 exact zbh fun i hi => by
  match i, hi with
  | 0, _ => rfl
  | 1, _ => rfl
  | 2, _ => rfl
  | 3, _ => rfl
  | 4, _ => rfl
  | 5, _ => rfl
end
end Go.Proofs.YtlnmjbbpenhdbaaGreat
