/-
  What the proof needs, part 21.
-/
import Derived.Test.YtlnmjbbpenhdbaaGreatKp19
namespace Go.Proofs.YtlnmjbbpenhdbaaGreat
open Tryz
open List renaming set_cons_zero → Ls0, set_cons_succ → Ls1, drop_succ_cons → Ld1, drop_zero → Ld0, drop_nil → Ldn
open Tryz renaming underlying22 → U22, underlying25 → U25, underlying26 → U26, underlying28 → U28, underlying29 → U29, underlying41 → U41, underlying63 → U63, underlying69 → U69, underlying74 → U74, underlying143 → U143
set_option linter.unusedSimpArgs false
set_option linter.unusedVariables false
set_option maxRecDepth 100000
set_option maxHeartbeats 32000000
section
open Go Go.RowKit
theorem Nums.rows {w : World} {base k : Nat} {v : Value} {F : NI} (h : Nums w base v k F) : RowsN w base 22 1 v k (fun q => .int .u64 (F q)) := by
 unfold RowsN
 rw [Nat.mul_one]
 exact h
theorem sub_one8 (p i : Nat) (h : p = i + 1) (hp : p <= 1000) : Value.int .i64 (IntKind.i64.wrap ((p : Int) - 1)) = .int .i64 (i : Int) := by
 subst h
 exact zfF i (by omega)
theorem rthird8_any (P Q G H : Int) (a : OA) (n cap : Nat) (bo : OA) (no co : Nat) (O : NI) (ba : OA) (ca : Nat) (A : NI) (X : Int) (bb : OA) (cb : Nat) (B : NI) (Y Z : Int) (bp : OA) (np cp : Nat) (bρ : OA) (nρ cρ : Nat) (bR : OA) (nR cR : Nat) (bS : OA) (nS cS : Nat) (bT : OA) (cT : Nat) (T : NI) (bD : OA) (nD cD : Nat) (w : World) (h4 : Four P Q G H) (hX : U64 X) (hY : U64 Y) (hZ : U64 Z) (ho : ordR no O = true) (hO : IntsIn w bo no O) (hA : FacsIn w ba no A) (hB : FacsIn w bb no B) (hT : FacsIn w bT no T) :
  Calls prog 25 #[gv P Q G H a n cap, .slice bo no co, tk ba no ca X bb no cb Y Z bp np cp, dv bρ nρ cρ bR nR cR bS nS cS bT no cT bD nD cD] w (GivL w no (thiI P Q G H X Y Z A B O T)) := by
 obtain ⟨i0, hi0, hz0, hz1, hz2⟩ := info_parts zbj
 have h8 : no <= 8 := (zfB.1 ho).1.2
 have h1 : 1 <= no := (zfB.1 ho).1.1
 have hP : OrdP no O := zaA.1 (by have := ho; unfold ordR at this; exact (Bool.and_eq_true_iff.1 this).2)
 have HOr : Hid (∀ wx, Old w wx -> Calls prog 56 #[.slice bo no co] wx (Ret wx (.bool true))) := fun wx hx => by have h := zbz bo no co O wx (by omega) (hO.old hx); rw [ho] at h; exact h
 have HBd : Hid (∀ i, i < no -> 0 <= O i /\ O i < 1000) := fun i hi => by have := hP.2.1 i hi; omega
 have HIT := hid hT
 have HTu := hid hT.u64
 obtain ⟨F, hF⟩ : ∃ F : Nat -> Int, F = thiI P Q G H X Y Z A B O T := ⟨_, rfl⟩
 have HF0 : Hid (F 0 = bigI P Q G (A 0) (B 0) Y Z) := by unfold Hid; rw [hF]; rfl
 have HFs : Hid (∀ i, F (i + 1) = mulI (expI P Q (F i) (facI Q X Y Z (O (i + 1) + 1))) (expI P Q H (T (i + 1))) P) := fun i => by rw [hF]; rfl
 have HFu : Hid (∀ i, U64 (F i)) := fun i => by rw [hF]; exact zfN _ _ _ _ _ _ _ _ _ _ _ i
 rw [<- hF]
 have HBg : Hid (∀ wx, Old w wx -> Calls prog 67 #[gv P Q G H a n cap, tk ba no ca X bb no cb Y Z bp np cp, .int .i64 0] wx (Ret wx (.int .u64 (F 0)))) := fun wx hx => by rw [HF0.out]; exact rbig8_any P Q G H a n cap ba no ca X bb no cb Y Z bp np cp A B 0 wx h4 h1 h1 hY hZ (hA.old hx) (hB.old hx)
 have HDd := hid fun wx i (hx : Old w wx) (hi : i < no) => rd8_any P Q G H a n cap bo no co O ba no ca X bb no cb Y Z bp np cp i wx hi hX hY hZ (hO.old hx) (HBd.out i hi)
 clear hF ho hO hA hB hT hP HF0
 have HZ := lain3 w (gc P Q G H a n cap) (tkc ba no ca X bb no cb Y Z bp np cp) (dvc bρ nρ cρ bR nR cR bS nS cS bT no cT bD nD cD) 25 41 31
 have HG0 := fun w' ho => (HZ.then (W' := w') ho).row 0 (by simp)
 have HT0 := fun w' ho => (HZ.then (W' := w') ho).row 1 (by simp)
 have HD0 := fun w' ho => (HZ.then (W' := w') ho).row 2 (by simp)
 have HW0 := hid HZ.old
 clear HZ
 go_enter func25, ntmps25
 go_upto_region 1 with fail
 generalize (((w.alloc (.cells (gc P Q G H a n cap) 25)).alloc (.cells (tkc ba no ca X bb no cb Y Z bp np cp) 41)).alloc (.cells (dvc bρ nρ cρ bR nR cR bS nS cS bT no cT bD nD cD) 31)) = W at *
 have HG := hid HG0
 have HTk := hid HT0
 have HDr := hid HD0
 clear HG0 HT0 HD0
 obtain ⟨gb, hgb⟩ : ∃ gb, gb = w.heap.size := ⟨_, rfl⟩
 rw [<- hgb] at HG HTk HDr
 rw [<- hgb]
 clear hgb
 have HTc : Hid (∀ wx, Old W wx -> wx.cell? ⟨gb + 1, 0, none⟩ = some (.slice ba no ca) /\ wx.cell? ⟨gb + 1, 1, none⟩ = some (.int .u64 X) /\ wx.cell? ⟨gb + 1, 2, none⟩ = some (.slice bb no cb) /\ wx.cell? ⟨gb + 1, 3, none⟩ = some (.int .u64 Y) /\ wx.cell? ⟨gb + 1, 4, none⟩ = some (.int .u64 Z) /\ wx.cell? ⟨gb + 1, 5, none⟩ = some (.slice bp np cp)) := fun wx hx => ⟨Y0 (HTk.out _ hx), Y1 (HTk.out _ hx), Y2 (HTk.out _ hx), Y3 (HTk.out _ hx), Y4 (HTk.out _ hx), Y5 (HTk.out _ hx)⟩
 have HGc : Hid (∀ wx, Old W wx -> G5 wx (gb) P Q G H (.slice a n cap)) := fun wx hx => g5 (HG.out _ hx)
 have HDc := hid fun wx (hx : Old W wx) => Y3 (HDr.out _ hx)
 go_upto_region 4 with (go_at_call 56; refine (HOr.out _ HW0.out).mono ?_; rintro e w1 ⟨rfl, o1⟩; obtain ⟨k0, k1, k2, k3, k4, k5⟩ := HTc.out _ o1; have k6 := HDc.out _ o1)
 have HO1 := hid o1
 clear k0 k1 k2 k3 k4 k5 k6 o1 HOr
 obtain ⟨k0, k1, k2, k3, k4, k5⟩ := HTc.out _ HO1.out
 obtain ⟨g0, g1, g2, g3, g4⟩ := HGc.out _ HO1.out
 go_upto_region 5 with (go_at_call 67; refine (HBg.out _ (HW0.out.trans HO1.out)).mono ?_; rintro e w2 ⟨rfl, o2⟩)
 have HO2 : Hid (Old W (w2.alloc (.cells #[.int .u64 (F 0)] 22))) := (HO1.out.trans o2).alloc _
 have HN2 := hid (zbG w2 W.heap.size 1 [.int .u64 (F 0)] F (HO1.out.trans o2).size (by omega) rfl)
 clear k0 k1 k2 k3 k4 k5 g0 g1 g2 g3 g4 o2 HO1 HBg
 generalize w2.alloc (.cells #[.int .u64 (F 0)] 22) = w3 at *
 go_upto_region 6 with fail
 go_loopw [10, 11] (fun v iv wx => ∃ p : Nat, iv = .int .i64 (p : Int) /\ 1 <= p /\ p <= no /\ Hid (Nums wx W.heap.size v p F) /\ Hid (Old W wx)) (fun _ iv _ => no - (intOf iv).toNat)
 case atStart => exact ⟨1, rfl, Nat.le_refl _, h1, HN2, HO2⟩
 case round =>
  obtain ⟨p, rfl, hp1, hp, HN, HO⟩ := hrel
  by_cases hlt : p < no
  ·obtain ⟨i, hpi⟩ : ∃ i, p = i + 1 := ⟨p - 1, by omega⟩
   have HSub := hid (sub_one8 p i hpi (by omega))
   have HFp : Hid (F p = mulI (expI P Q (F i) (facI Q X Y Z (O p + 1))) (expI P Q H (T p)) P) := by unfold Hid; rw [hpi]; exact HFs.out i
   have hip : i < p := by omega
   clear hpi
   obtain ⟨lb, lc, cur, hv, _, _, _, hrow, hcur⟩ := HN.out.rows.cells hp1
   have HL : Hid (∀ wx, Old wr wx -> wx.cell? ⟨lb, 0 + i, none⟩ = some (.int .u64 (F i))) := fun wx hx => by rw [Nat.zero_add]; exact hx.cellOf (by rw [cell_of_row _ _ i _ _ (0, 0) hrow, hcur i (by omega)])
   clear hrow hcur
   subst hv
   rcases HIT.out with h0 | ⟨bx, ox, hqx, _, hrx⟩
   ·omega
   have HC := hid fun wx (hx : Old wr wx) => ((HW0.out.trans HO.out).trans hx).cellOf (hrx p hlt).1
   have HTp := hid ((hrx p hlt).2)
   clear hrx
   subst hqx
   have HGr := hid fun wx (hx : Old wr wx) => HG.out _ (HO.out.trans hx)
   have HTr := hid fun wx (hx : Old wr wx) => HTk.out _ (HO.out.trans hx)
   have HDe := hid fun wx (hx : Old wr wx) => HDd.out wx p ((HW0.out.trans HO.out).trans hx) hlt
   have HFi := hid (HFu.out i)
   go_upto_region 8 with fail
   refine zaa 13 [.k (gv P Q G H a n cap), .k (.slice (some ⟨lb, 0, none⟩) p lc), .k (.int .i64 (p : Int)), .k (.int .i64 (i : Int)), .k (.pointer (some ⟨lb, 0 + i, none⟩)), .k (.int .u64 (F i)), .k (gv P Q G H a n cap), .k (.slice bo no co), .k (tk ba no ca X bb no cb Y Z bp np cp), .k (.int .i64 (p : Int)), .k (.int .u64 (facI Q X Y Z (O p + 1))), .k (.int .u64 (expI P Q (F i) (facI Q X Y Z (O p + 1)))), .k (.int .u64 (expI P Q (F i) (facI Q X Y Z (O p + 1))))] (Old wr) (by kernel_rfl) (by kernel_rfl) rfl ((Old.refl _).drew) ?st ?_
   case st =>
    refine .c (sts U25 HGr.out) <| .p <| .p <| .c (stv HSub.out) <| .c (sti (n := p) (c := lc) hip U29) <| .c (stl U22 HL.out) <| .c (sts U25 HGr.out) <| .p <| .c (sts U41 HTr.out) <| .p <| .c (stK old_R func69 (fun wx hx => HDe.out wx hx)) <| .c (stK old_R func68 (fun wx _ => zfn P Q G H a n cap _ _ h4 HFi.out (u64_fac _ _ _ _ _) wx)) <| .c stp .n
   intro t wx hR hk
   simp only [fill, Ent.val, Ls0, Ls1, Ld1, Ld0, Ldn]
   go_upto_region 9 with fail
   have HOx := hid (HO.out.trans hR)
   have HNx := hid (HN.out.old hR)
   have HGx := hid fun wy (hx : Old wx wy) => HG.out _ (HOx.out.trans hx)
   have HDx := hid fun wy (hx : Old wx wy) => HDr.out _ (HOx.out.trans hx)
   have HCx := hid fun wy (hx : Old wx wy) => HC.out _ (hR.trans hx)
   clear hR hk HGr HTr HDe HC HL HN HO
   have HMu : Hid (∀ wy, Calls prog 70 #[.int .u64 (expI P Q (F i) (facI Q X Y Z (O p + 1))), .int .u64 (expI P Q H (T p)), .int .u64 P] wy (Ret wy (.int .u64 (F p)))) := fun wy => by rw [HFp.out]; exact zaO _ _ P (zaz _ _ _ _) (zaz _ _ _ _) wy
   refine zaa 15 [.k (.slice (some ⟨lb, 0, none⟩) p lc), .k (.int .u64 (expI P Q (F i) (facI Q X Y Z (O p + 1)))), .k (gv P Q G H a n cap), .k (.pointer (some ⟨gb, 3, none⟩)), .k (.int .u64 H), .k (.pointer (some ⟨gb + 1 + 1, 3, none⟩)), .k (.slice (some ⟨bx, ox, none⟩) no cT), .k (.int .i64 (p : Int)), .k (.pointer (some ⟨bx, ox + p, none⟩)), .k (.int .u64 (T p)), .k (.int .u64 (expI P Q H (T p))), .k (.pointer (some ⟨gb, 0, none⟩)), .k (.int .u64 P), .k (.int .u64 (F p)), blkE 1 #[.int .u64 (F p)] 22] (Old wx) (by kernel_rfl) (by kernel_rfl) rfl ((Old.refl _).drew) ?st ?_
   case st =>
    refine .p <| .p <| .c (sts U25 HGx.out) <| .p <| .c (stf 3 U22 HGx.out) <| .p <| .c (stf 3 U29 HDx.out) <| .p <| .c (sti (n := no) (c := cT) hlt U29) <| .c (stl U22 HCx.out) <| .c (stK old_R func68 (fun wy _ => zfn P Q G H a n cap H _ h4 ⟨h4.h0, h4.h1⟩ HTp.out wy)) <| .p <| .c (stf 0 U22 HGx.out) <| .c (stK old_R func70 (fun wy _ => HMu.out wy)) <| .c (stm (ob := fun t => .cells #[.int .u64 (F p)] 22) (v := fun s => .slice (some ⟨s, 0, none⟩) 1 1) old_R fun t wx hR hd => ⟨_, rfl, heap_alloc_last _ _⟩) .n
   intro t_1 wz hR2 hk2
   simp only [fill, Ent.val, blkE, Ls0, Ls1, Ld1, Ld0, Ldn]
   obtain ⟨bs, ebs, hbs⟩ : ∃ b, t_1 14 = .slice (some ⟨b, 0, none⟩) 1 1 /\ wz.heap[b]? = some (.cells #[.int .u64 (F p)] 22 (0, 0)) := hk2 14 (by omega)
   rw [ebs]
   have HNz := hid (HNx.out.old hR2)
   have HOz := hid (HOx.out.trans hR2)
   have HSz := hid HOz.out.size
   clear hk2 hR2 HGx HDx HCx HMu HNx HOx HSub
   go_wp2_with (at_builtin; refine wpList_append_lies _ rfl _ _ 29 rfl W.heap.size 22 i0 (.int .u64 0) 1 8 U29 hi0 hz0 hz1 hz2 rfl (by decide) _ _ _ rfl HNz.out ⟨bs, 0, none⟩ 1 1 [.int .u64 (F p)] rfl rfl ?c1 ?c2 (by decide) ?c3 ?c4 HSz.out _ rfl ?_)
   case c1 => exact za5 hbs
   case c2 => intro u hu; simp at hu; rcases hu with rfl; rfl
   case c3 => unfold maxLen; omega
   case c4 => omega
   intro g9 cap9 w9 hown9 hgrow9 hat9 _
   have HN9 := hid (Nums.app hown9 rfl)
   have HO9 := hid (HOz.out.grown hgrow9 fun q hq => (World.ownsRow.lt HNz.out q hq).1)
   clear hown9 hgrow9 hat9 HNz HOz hbs ebs HSz
   go_wp2
   go_roundw
   case rel => exact ⟨p + 1, zab p, by omega, by omega, HN9, HO9⟩
   case measure => simp [intOf]; omega
  ·have he : no = p := by omega
   subst he
   go_wp2_with fail
   go_ret
   exact ⟨HW0.out.trans HO.out, _, rfl, HN.out.mono HW0.out.size⟩
def GivR (w : World) (ok : Bool) (m : Nat) (C : NN) (r : Ending) (w' : World) : Prop := Old w w' /\ ∃ a c, r = .returned (.tuple #[.slice a (if ok then m else 0) c, .bool ok]) /\ BoxF w' a (if ok then m else 0) C
theorem zgk {w w' : World} {ok : Bool} {m : Nat} {C : NN} (hok : ok = false) (ho : Old w w') : GivR w ok m C (.returned (.tuple #[.slice none 0 0, .bool false])) w' := by
 subst hok
 exact ⟨ho, none, 0, rfl, Or.inl rfl⟩
theorem zfX {P Q y : Int} {m : Nat} {C : NN} {no : Nat} {O : NI} {nρ : Nat} : mixB P Q y m C no O nρ = true ↔ batB P Q m C = true /\ inI P Q y = true /\ ordR no O = true /\ no = m /\ nρ = m := by
 unfold mixB ordR
 simp only [Bool.and_eq_true_iff, decide_eq_true_eq]
 constructor
 ·rintro ⟨h1, h2, h3, h4, h5⟩
  have := (zaK.1 h4).1
  exact ⟨h4, h5, ⟨by omega, h3⟩, h1, h2⟩
 ·rintro ⟨h4, h5, ⟨_, h3⟩, h1, h2⟩
  exact ⟨h1, h2, h3, h4, h5⟩
theorem info_pair8r : (prog.info? 69).map (·.size) = some 2 := by kernel_rfl
theorem pair_load8 (w : World) (b off : Nat) (u v : Int) (h0 : w.cell? ⟨b, off, none⟩ = some (.int .u64 u)) (h1 : w.cell? ⟨b, off + 1, none⟩ = some (.int .u64 v)) : (loadVar 69 ⟨b, off, none⟩).run prog w = .ok (pv u v) w :=
 zbP w b off _ #[.int .u64 u, .int .u64 v] _ (fun j v hv => by
  match j, (show j < 2 from (Array.getElem?_eq_some_iff.1 hv).1) with
  | 0, _ => exact h0.trans hv
  | 1, _ => exact h1.trans hv) U69 rfl info_pair8r
theorem boxinfo9 : (prog.info? 74).map (fun i => (i.zero, i.size, i.bytes)) = some (some (.agg #[.int .u64 0, .int .u64 0, .int .u64 0, .int .u64 0, .int .u64 0, .int .u64 0]), 6, 48) := by kernel_rfl
def mxV (k : Nat) (M C : NI) : Nat -> Value := fun q => .int .u64 (if q < k then M q else C q)
theorem mxV_row (w : World) (M C : NI) : FulV (w.alloc (.cells (bx6a C) 74)) w.heap.size 6 74 (mxV 0 M C) := by
 unfold FulV
 rw [heap_alloc_last]
 rfl
theorem mxV_next {w : World} {b k : Nat} {M C : NI} {x z : Int} (h : FulV w b 6 74 (mxV k M C)) (hx : M k = x) (hz : M (k + 1) = z) : FulV ((w.setCell ⟨b, k, none⟩ (.int .u64 x)).setCell ⟨b, k + 1, none⟩ (.int .u64 z)) b 6 74 (mxV (k + 2) M C) :=
 ((h.set k (.int .u64 x)).set (k + 1) (.int .u64 z)).congr fun q hq => by
  unfold mxV
  by_cases h1 : q = k + 1
  ·rw [if_pos h1, if_pos (by omega), h1, hz]
  ·rw [if_neg h1]
   by_cases h2 : q = k
   ·rw [if_pos h2, if_pos (by omega), h2, hx]
   ·rw [if_neg h2]
    by_cases h3 : q < k
    ·rw [if_pos h3, if_pos (by omega)]
    ·rw [if_neg h3, if_neg (by omega)]
theorem saj0 {P : Program} {ops : List Oper} {L0 : List Value} {E : List Ent} {R : World -> Prop} {dst : Option Tmp} {ty : TypeId} {pos : String} {after : Array Edge} {guard : Option (Nat × Bool)} {T e : TypeId} {x ix : Operand} {b n k : Nat} (sz : Nat) (hi : k < n) (hu : P.underlying T = some (.array n e)) (hs : (P.info? e).map (·.size) = some sz := by kernel_rfl) (hg : zao E ⟨dst, .indexAddr T x ix, ty, pos, after, guard⟩ = some true := by rfl) (hx : ∀ t, Act.eval ⟨(fill ops E t 0 L0).toArray, []⟩ x = .pointer (some ⟨b, 0, none⟩) := by intro _; kernel_rfl) (hix : ∀ t, Act.eval ⟨(fill ops E t 0 L0).toArray, []⟩ ix = .int .i64 (k : Int) := by intro _; kernel_rfl) : StepT P ops L0 E R ⟨dst, .indexAddr T x ix, ty, pos, after, guard⟩ (.k (.pointer (some ⟨b, k * sz, none⟩))) := by
 have h := saj (P := P) (ops := ops) (L0 := L0) (E := E) (R := R) (off := 0) (i := k) sz hi hu hs hg hx hix
 rwa [Nat.zero_add] at h
theorem rmix8_any (P Q G H : Int) (a : OA) (n cap : Nat) (y : Int) (bi : OA) (m ci : Nat) (C : NN) (bo : OA) (no co : Nat) (O : NI) (bρ : OA) (nρ cρ : Nat) (R : NN) (w : World) (h4 : Four P Q G H) (hr : Righ P Q G) (hy : U64 y) (mm : m <= 80) (mo : no <= 80) (mρ : nρ <= 80) (hC : BoxsIn w bi m C) (hO : IntsIn w bo no O) (hR : RhoIn w bρ nρ R) :
  Calls prog 16 #[gv P Q G H a n cap, .int .u64 y, .slice bi m ci, .slice bo no co, .slice bρ nρ cρ] w (GivR w (mixB P Q y m C no O nρ) m (mixC P Q G y C O R)) := by
 have HBa := hid fun wx (ho : Old w wx) => zfL P Q G H a n cap bi m ci C wx h4 (by omega) (hC.old ho)
 have HIn : Hid (∀ wx, Calls prog 55 #[gv P Q G H a n cap, .int .u64 y] wx (Ret wx (.bool (inI P Q y)))) := fun wx => zdu P Q G H y a n cap wx h4.q0 h4.q1 hy.2
 have HOr := hid fun wx (ho : Old w wx) => zbz bo no co O wx (by omega) (hO.old ho)
 have HZ := lain1 w (gc P Q G H a n cap) 25
 have HG0 := fun w' ho => (HZ.then (W' := w') ho).row 0 (by simp)
 have HW0 := hid HZ.old
 clear HZ
 by_cases hok : mixB P Q y m C no O nρ = true
 rotate_left
 ·have HN : Hid (mixB P Q y m C no O nρ = false) := by unfold Hid; simpa using hok
  have hno : ¬ (batB P Q m C = true /\ inI P Q y = true /\ ordR no O = true /\ no = m /\ nρ = m) := fun h => hok (zfX.2 h)
  clear hok h4 hr hC hO hR
  generalize mixB P Q y m C no O nρ = mb at *
  generalize mixC P Q G y C O R = M at *
  go_enter func16, ntmps16
  go_upto_region 1 with fail
  generalize w.alloc (.cells (gc P Q G H a n cap) 25) = W at *
  obtain ⟨gb, hgb⟩ : ∃ gb, gb = w.heap.size := ⟨_, rfl⟩
  have HG : Hid (∀ wx, Old W wx -> wx.heap[gb]? = some (.cells (gc P Q G H a n cap) 25 (0, 0))) := by rw [hgb]; exact HG0
  rw [<- hgb]
  clear hgb HG0
  have HGc : Hid (∀ wx, Old W wx -> G5 wx (gb) P Q G H (.slice a n cap)) := fun wx ho => g5 (HG.out _ ho)
  obtain ⟨d0, d1, d2, d3, d4⟩ := HGc.out _ (Old.refl _)
  cases hb : batB P Q m C with
  | false =>
   rw [hb] at HBa
   clear hb hno
   go_wp2_with (go_at_call 54; refine (HBa.out _ HW0.out).mono ?_; rintro e w1 ⟨rfl, o1⟩)
   go_ret2
   exact zgk HN.out (HW0.out.trans o1)
  | true =>
   rw [hb] at HBa hno
   cases hi : inI P Q y with
   | false =>
    rw [hi] at HIn
    clear hb hno hi
    go_wp2_with (first
     | (go_at_call 54; refine (HBa.out _ HW0.out).mono ?_; rintro e w1 ⟨rfl, o1⟩; obtain ⟨d0, d1, d2, d3, d4⟩ := HGc.out _ o1)
     | (go_at_call 55; refine (HIn.out _).mono ?_; rintro e w2 ⟨rfl, o2⟩))
    go_ret2
    exact zgk HN.out ((HW0.out.trans o1).trans o2)
   | true =>
    rw [hi] at HIn hno
    cases ho : ordR no O with
    | false =>
     rw [ho] at HOr
     clear hb hno hi ho
     go_wp2_with (first
      | (go_at_call 54; refine (HBa.out _ HW0.out).mono ?_; rintro e w1 ⟨rfl, o1⟩; obtain ⟨d0, d1, d2, d3, d4⟩ := HGc.out _ o1)
      | (go_at_call 55; refine (HIn.out _).mono ?_; rintro e w2 ⟨rfl, o2⟩)
      | (go_at_call 56; refine (HOr.out _ ((HW0.out.trans o1).trans o2)).mono ?_; rintro e w3 ⟨rfl, o3⟩))
     go_ret2
     exact zgk HN.out (((HW0.out.trans o1).trans o2).trans o3)
    | true =>
     rw [ho] at HOr hno
     by_cases h1 : no = m
     ·have h2 : ¬ nρ = m := fun h => hno ⟨rfl, rfl, rfl, h1, h⟩
      have k0 : ((no : Int) != (m : Int)) = false := by simp; omega
      have k1 : ((nρ : Int) != (m : Int)) = true := by simp; omega
      have k2 : ¬ (nρ : Int) = (m : Int) := by omega
      have k3 : (no : Int) = (m : Int) := by omega
      clear hb hno hi ho h1 h2
      go_wp2_with (first
       | (go_at_call 54; refine (HBa.out _ HW0.out).mono ?_; rintro e w1 ⟨rfl, o1⟩; obtain ⟨d0, d1, d2, d3, d4⟩ := HGc.out _ o1)
       | (go_at_call 55; refine (HIn.out _).mono ?_; rintro e w2 ⟨rfl, o2⟩)
       | (go_at_call 56; refine (HOr.out _ ((HW0.out.trans o1).trans o2)).mono ?_; rintro e w3 ⟨rfl, o3⟩))
      go_ret2
      exact zgk HN.out (((HW0.out.trans o1).trans o2).trans o3)
     ·have k1 : ((no : Int) != (m : Int)) = true := by simp; omega
      have k2 : ¬ (no : Int) = (m : Int) := by omega
      clear hb hno hi ho h1
      go_wp2_with (first
       | (go_at_call 54; refine (HBa.out _ HW0.out).mono ?_; rintro e w1 ⟨rfl, o1⟩; obtain ⟨d0, d1, d2, d3, d4⟩ := HGc.out _ o1)
       | (go_at_call 55; refine (HIn.out _).mono ?_; rintro e w2 ⟨rfl, o2⟩)
       | (go_at_call 56; refine (HOr.out _ ((HW0.out.trans o1).trans o2)).mono ?_; rintro e w3 ⟨rfl, o3⟩))
      go_ret2
      exact zgk HN.out (((HW0.out.trans o1).trans o2).trans o3)
 obtain ⟨hba, hin, hord, e1, e2⟩ := zfX.1 hok
 rw [hba] at HBa
 rw [hin] at HIn
 rw [hord] at HOr
 rw [hok]
 have e1' : m = no := e1.symm
 subst e1'
 have e2' : m = nρ := e2.symm
 subst e2'
 clear e1 e2 hok
 have HX := hid hO
 have HCx := hid hC
 have HRx := hid hR
 have HPo := hid (zaA.1 (by have := hord; unfold ordR at this; exact (Bool.and_eq_true_iff.1 this).2))
 have h8 : m <= 8 := (zaK.1 hba).1.2
 have H4 := hid h4
 have HRi := hid hr
 obtain ⟨D, hD⟩ : ∃ D : Nat -> Nat -> Int, D = mixC P Q G y C O R := ⟨_, rfl⟩
 have HDe := hid hD
 rw [<- hD]
 clear hD hC hO hR h4 hr hba hin hord
 obtain ⟨i0, hi0, hz⟩ := Option.map_eq_some_iff.1 boxinfo9
 simp only [Prod.mk.injEq] at hz
 obtain ⟨hz0, hz1, hz2⟩ := hz
 have HI0 : Hid (prog.info? 74 = some i0 /\ i0.zero = some (.agg #[.int .u64 0, .int .u64 0, .int .u64 0, .int .u64 0, .int .u64 0, .int .u64 0]) /\ i0.size = 6 /\ i0.bytes = 48) := ⟨hi0, hz0, hz1, hz2⟩
 clear hi0 hz0 hz1 hz2
 go_enter func16, ntmps16
 go_upto_region 1 with fail
 generalize w.alloc (.cells (gc P Q G H a n cap) 25) = W at *
 obtain ⟨gb, hgb⟩ : ∃ gb, gb = w.heap.size := ⟨_, rfl⟩
 have HG : Hid (∀ wx, Old W wx -> wx.heap[gb]? = some (.cells (gc P Q G H a n cap) 25 (0, 0))) := by rw [hgb]; exact HG0
 rw [<- hgb]
 clear hgb HG0
 have HGc : Hid (∀ wx, Old W wx -> G5 wx (gb) P Q G H (.slice a n cap)) := fun wx ho => g5 (HG.out _ ho)
 obtain ⟨d0, d1, d2, d3, d4⟩ := HGc.out _ (Old.refl _)
 go_upto_region 5 with (first
  | (go_at_call 54; refine (HBa.out _ HW0.out).mono ?_; rintro e w1 ⟨rfl, o1⟩; obtain ⟨d0, d1, d2, d3, d4⟩ := HGc.out _ o1)
  | (go_at_call 55; refine (HIn.out _).mono ?_; rintro e w2 ⟨rfl, o2⟩)
  | (go_at_call 56; refine (HOr.out _ ((HW0.out.trans o1).trans o2)).mono ?_; rintro e w3 ⟨rfl, o3⟩))
 have HO3 := hid ((o1.trans o2).trans o3)
 clear o1 o2 o3 d0 d1 d2 d3 d4 HBa HIn HOr HGc
 go_loopw [12, 13] (fun v iv wx => ∃ i : Nat, iv = .int .i64 (i : Int) /\ i <= m /\ Hid (RowsN wx W.heap.size 74 6 v i (bxL D)) /\ Hid (Old W wx)) (fun _ iv _ => m - (intOf iv).toNat)
 case atStart => exact ⟨0, rfl, Nat.zero_le _, rowsN_nil _ _ _ _ _, HO3⟩
 case round =>
  obtain ⟨i, rfl, hi, HN, HO⟩ := hrel
  by_cases hlt : i < m
  ·rcases HX.out with h0 | ⟨bx, ox, hqx, _, hrx⟩
   ·omega
   have cx := (HW0.out.trans HO.out).cellOf (hrx i hlt).1
   have hp := HPo.out.2.1 i hlt
   obtain ⟨p, hpe⟩ : ∃ p : Nat, O i = (p : Int) := ⟨(O i).toNat, by omega⟩
   have HPe : Hid ((O i).toNat = p) := by unfold Hid; omega
   rw [hpe] at cx hp
   have hpn : p < m := by omega
   clear hpe hp hrx
   subst hqx
   rcases HCx.out with h0 | ⟨bc, oc, hqc, _, hrc⟩
   ·omega
   have hcc : ∀ k, k < 6 -> wr.cell? ⟨bc, oc + p * 6 + k, none⟩ = some (.int .u64 (C p k)) /\ U64 (C p k) := fun k hk => ⟨(HW0.out.trans HO.out).cellOf (hrc p hpn k hk).1, (hrc p hpn k hk).2⟩
   have c0 : wr.cell? ⟨bc, oc + p * 6, none⟩ = some (.int .u64 (C p 0)) := (hcc 0 (by omega)).1
   have c1 := (hcc 1 (by omega)).1
   have c2 := (hcc 2 (by omega)).1
   have c3 := (hcc 3 (by omega)).1
   have c4 := (hcc 4 (by omega)).1
   have c5 := (hcc 5 (by omega)).1
   have HCu := hid fun k (hk : k < 6) => (hcc k hk).2
   clear hrc hcc
   subst hqc
   have HB0 : Hid (FulV (wr.alloc (.cells (bx6a (C p)) 74)) wr.heap.size 6 74 (mxV 0 (D i) (C p))) := mxV_row _ _ _
   have HO1 : Hid (Old wr (wr.alloc (.cells (bx6a (C p)) 74))) := (Old.refl _).alloc _
   have HSz := hid HO.out.size
   go_upto_region 9 with fail
   clear c0 c1 c2 c3 c4 c5 cx
   obtain ⟨nb, hnb⟩ : ∃ nb, nb = wr.heap.size := ⟨_, rfl⟩
   rw [<- hnb] at HB0
   rw [<- hnb]
   have Hnb : Hid (wr.heap.size <= nb) := by unfold Hid; omega
   clear hnb
   obtain ⟨w5, hw5⟩ : ∃ w5, w5 = wr.alloc (.cells (bx6a (C p)) 74) := ⟨_, rfl⟩
   rw [<- hw5] at HB0 HO1
   try rw [<- hw5]
   clear hw5
   go_loopw [15] (fun kv wx => ∃ k : Nat, kv = .int .i64 (k : Int) /\ k <= 3 /\ Hid (FulV wx nb 6 74 (mxV (k * 2) (D i) (C p))) /\ Hid (Old wr wx)) (fun kv _ => 3 - (intOf kv).toNat)
   case atStart => exact ⟨0, rfl, Nat.zero_le _, by rw [Nat.zero_mul]; exact HB0, HO1⟩
   case round =>
    obtain ⟨k, rfl, hk, HB, HO2⟩ := hrel
    by_cases hkl : k < 3
    ·have k3 : (k : Int) < 3 := by omega
     rcases HRx.out with h0 | ⟨by_, oy, hqy, _, hry⟩
     ·omega
     have HRu := hid ((hry i hlt k hkl).2)
     have HRc := hid fun wx (hx : Old wr wx) => (((HW0.out.trans HO.out).trans HO2.out).trans hx).cellOf (hry i hlt k hkl).1
     clear hry
     subst hqy
     have HPl : Hid (∀ wx, Old wr wx -> (loadVar 69 ⟨nb, k * 2, none⟩).run prog wx = .ok (pv (C p (2 * k)) (C p (2 * k + 1))) wx) := fun wx ho => by
      have hb := HB.out.old ho
      refine pair_load8 wx nb _ _ _ ?_ ?_
      ·rw [hb.cell (k * 2) (by omega)]; unfold mxV; rw [if_neg (by omega), show k * 2 = 2 * k by omega]
      ·rw [hb.cell (k * 2 + 1) (by omega)]; unfold mxV; rw [if_neg (by omega), show k * 2 + 1 = 2 * k + 1 by omega]
     have HDu : Hid (D i (2 * k) = mulI (C p (2 * k)) (expI P Q G (R i k)) P) := by
      unfold Hid; rw [HDe.out]; unfold mixC; rw [if_pos (by omega), HPe.out, show 2 * k / 2 = k by omega]
     have HDv : Hid (D i (2 * k + 1) = mulI (C p (2 * k + 1)) (expI P Q y (R i k)) P) := by
      unfold Hid; rw [HDe.out]; unfold mixC; rw [if_neg (by omega), HPe.out, show (2 * k + 1) / 2 = k by omega]
     have HCv : Hid (U64 (C p (2 * k)) /\ U64 (C p (2 * k + 1))) := ⟨HCu.out _ (by omega), HCu.out _ (by omega)⟩
     have HAg : Hid (∀ wx, Calls prog 57 #[gv P Q G H a n cap, .int .u64 y, pv (C p (2 * k)) (C p (2 * k + 1)), .int .u64 (R i k)] wx (Ret wx (pv (D i (2 * k)) (D i (2 * k + 1))))) := fun wx => by rw [HDu.out, HDv.out]; exact ragain_any P Q G H a n cap y _ _ _ wx H4.out HRi.out hy HCv.out.1 HCv.out.2 HRu.out
     have HGr := hid fun wx (ho : Old wr wx) => HG.out wx ((HO.out.trans HO2.out).trans ho)
     go_upto_region 11 with fail
     refine zaa 14 [.k (.int .i64 (k : Int)), .k (gv P Q G H a n cap), .k (.int .u64 y), .k (.int .i64 (k : Int)), .k (.pointer (some ⟨nb, k * 2, none⟩)), .k (pv (C p (2 * k)) (C p (2 * k + 1))), .k (.slice (some ⟨by_, oy, none⟩) m cρ), .k (.int .i64 (i : Int)), .k (.int .i64 (k : Int)), .k (.pointer (some ⟨by_, oy + i * 3, none⟩)), .k (.pointer (some ⟨by_, oy + i * 3 + k, none⟩)), .k (.int .u64 (R i k)), .k (pv (D i (2 * k)) (D i (2 * k + 1))), .k (.pointer (some ⟨nb, k * 2, none⟩))] (Old wr) (by kernel_rfl) (by kernel_rfl) rfl ((Old.refl _).drew) ?st ?_
     case st =>
      refine .p <| .c (sts U25 HGr.out) <| .p <| .p <| .c (saj0 2 hkl U74) <| .c (stlv HPl.out) <| .p <| .p <| .p <| .c (stj (n := m) (c := cρ) 3 hlt U28) <| .c (sai hkl U63) <| .c (stl U22 HRc.out) <| .c (stK old_R func57 (fun wy _ => HAg.out wy)) <| .c (saj0 2 hkl U74) .n
     intro t wz hR2 hk2
     simp only [fill, Ent.val, Ls0, Ls1, Ld1, Ld0, Ldn]
     have HBz := HB.out.old hR2
     have HB3 : Hid (FulV ((wz.setCell ⟨nb, k * 2, none⟩ (.int .u64 (D i (2 * k)))).setCell ⟨nb, k * 2 + 1, none⟩ (.int .u64 (D i (2 * k + 1)))) nb 6 74 (mxV ((k + 1) * 2) (D i) (C p))) := by
      have h := mxV_next HBz (x := D i (2 * k)) (z := D i (2 * k + 1)) (by rw [show k * 2 = 2 * k by omega]) (by rw [show k * 2 + 1 = 2 * k + 1 by omega])
      rwa [show k * 2 + 2 = (k + 1) * 2 by omega] at h
     have HO3' : Hid (Old _ ((wz.setCell ⟨nb, k * 2, none⟩ (.int .u64 (D i (2 * k)))).setCell ⟨nb, k * 2 + 1, none⟩ (.int .u64 (D i (2 * k + 1))))) := ((HO2.out.trans hR2).setCell (p := ⟨nb, k * 2, none⟩) Hnb.out _).setCell (p := ⟨nb, k * 2 + 1, none⟩) Hnb.out _
     have q0 := HBz.cell (k * 2) (by omega)
     have q1 := HBz.cell (k * 2 + 1) (by omega)
     have f0 := HBz.free (k * 2)
     have f1 := HBz.free (k * 2 + 1)
     unfold mxV at q0 q1
     clear hR2 hk2 HBz HRc HPl HAg HGr
     generalize D i (2 * k) = du at *
     generalize D i (2 * k + 1) = dv8 at *
     go_wp2_with fail
     go_roundw
     case rel => exact ⟨k + 1, zab k, by omega, HB3, HO3'⟩
     case measure => simp [intOf]; omega
    ·have hk3 : k = 3 := by omega
     subst hk3
     have HB6 : Hid (wr.heap[nb]? = some (.cells (bx6a (D i)) 74 (0, 0))) := HB.out
     obtain ⟨m0, m1, m2, m3, m4, m5⟩ := g6 HB6.out
     have hwv : W.heap.size <= wr.heap.size := (HO.out.trans HO2.out).size
     have HNv := HN.out.old HO2.out
     have HOv := hid (HO.out.trans HO2.out)
     have HNews := hid (box_news D i)
     obtain ⟨hi0, hz0, hz1, hz2⟩ := HI0.out
     clear HB HO2 HB0 HO1 HB6
     generalize D i 0 = x0 at *
     generalize D i 1 = x1 at *
     generalize D i 2 = x2 at *
     generalize D i 3 = x3 at *
     generalize D i 4 = x4 at *
     generalize D i 5 = x5 at *
     go_wp2_with (at_builtin; refine wpList_append_lies _ rfl _ _ 26 rfl W.heap.size 74 i0 (.agg #[.int .u64 0, .int .u64 0, .int .u64 0, .int .u64 0, .int .u64 0, .int .u64 0]) 6 48 U26 hi0 hz0 hz1 hz2 rfl (by decide) _ _ _ rfl (World.ownsRow.alloc HNv _) ⟨wr.heap.size, 0, none⟩ 1 1 [.int .u64 x0, .int .u64 x1, .int .u64 x2, .int .u64 x3, .int .u64 x4, .int .u64 x5] rfl rfl ?c1 ?c2 (by decide) ?c3 ?c4 ?c5 _ rfl ?_)
     case c1 => exact zf3 wr _ _
     case c2 => intro u hu; simp at hu; rcases hu with rfl | rfl | rfl | rfl | rfl | rfl <;> rfl
     case c3 => unfold maxLen; omega
     case c4 => omega
     case c5 => simp; omega
     intro g5 cap5 w9 hown9 hgrow9 hat9 _
     have HN9 := hid (RowsN.app hown9 HNews.out)
     have HO9 : Hid (Old W w9) := (HOv.out.alloc _).grown hgrow9 fun q hq => (World.ownsRow.lt HNv q hq).1
     clear hown9 hgrow9 hat9 HNews HNv m0 m1 m2 m3 m4 m5
     go_wp2
     go_roundw
     case rel => exact ⟨i + 1, zab i, by omega, HN9, HO9⟩
     case measure => simp [intOf]; omega
  ·have he : m = i := by omega
   subst he
   obtain ⟨b, c, e12, hbf⟩ := HN.out.boxF fun j k _ _ => by rw [HDe.out]; exact zdS _ _ _ _ _ _ _ j k
   have HF := hid hbf
   rw [e12]
   clear e12 hbf
   go_wp2_with fail
   go_ret2
   exact ⟨HW0.out.trans HO.out, b, c, rfl, HF.out⟩
theorem pack_two (F : NI) (n : Nat) {u v : Int} (hu : F n = u) (hv : F (n + 1) = v) : packL F (n + 2) = packL F n ++ packL (two7 u v) 2 := by
 subst hu
 subst hv
 show (packL F n ++ zap (F n) 8) ++ zap (F (n + 1)) 8 = packL F n ++ (([] ++ zap (F n) 8) ++ zap (F (n + 1)) 8)
 simp only [List.nil_append, List.append_assoc]
theorem ze7 (b : OA) (m c : Nat) (C : NN) (w : World) (mm : m <= 1000) (h : BoxsIn w b m C) :
  Calls prog 131 #[.slice b m c] w (Ret w (.string (strOfNums (packL (flatF C) (6 * m))))) := by
 have HX : Hid (BoxsIn w b m C) := h
 have HNu : Hid (∀ bs u v wx, U64 u -> U64 v -> Nums wx w.heap.size (.slice (some ⟨bs, 0, none⟩) 2 2) 2 (two7 u v) -> Calls prog 130 #[.slice (some ⟨bs, 0, none⟩) 2 2] wx (Ret wx (.string (strOfNums (packL (two7 u v) 2))))) := fun bs u v wx hu hv hN => by
  obtain ⟨_, _, e, _, hf⟩ := hN.facs (fun i _ => u64_two hu hv i)
  cases e
  exact zaJ _ 2 2 _ wx (by omega) hf
 clear h
 have hadd : ∀ xs ys : List Int, strOfNums xs ++ strOfNums ys = strOfNums (xs ++ ys) := zc0
 have hsz : ∀ xs : List Int, (strOfNums xs).size = xs.length := strOfNums_size
 go_enter func131, ntmps131
 go_upto_region 3 with fail
 go_loopw [3, 4] (fun sv iv wx => ∃ i : Nat, iv = .int .i64 (i : Int) /\ i <= m /\ sv = .string (strOfNums (packL (flatF C) (6 * i))) /\ Hid (Old w wx)) (fun _ iv _ => m - (intOf iv).toNat)
 case atStart => exact ⟨0, rfl, Nat.zero_le _, rfl, Old.refl _⟩
 case round =>
  obtain ⟨i, rfl, hi, rfl, HO⟩ := hrel
  by_cases hlt : i < m
  ·go_upto_region 6 with fail
   go_loopw [3, 5] (fun sv kv wx => ∃ k : Nat, kv = .int .i64 (k : Int) /\ k <= 3 /\ sv = .string (strOfNums (packL (flatF C) (6 * i + 2 * k))) /\ Hid (Old w wx)) (fun _ kv _ => 3 - (intOf kv).toNat)
   case atStart => exact ⟨0, rfl, Nat.zero_le _, rfl, HO⟩
   case round =>
    obtain ⟨k, rfl, hk, rfl, HO2⟩ := hrel
    by_cases hkl : k < 3
    ·have k3 : (k : Int) < 3 := by omega
     rcases HX.out with h0 | ⟨bx, ox, hqx, _, hrx⟩
     ·omega
     have HU : Hid (∀ wx, Old wr wx -> wx.cell? ⟨bx, ox + i * 6 + k * 2, none⟩ = some (.int .u64 (C i (2 * k)))) := fun wx ho => by
      have := ((HO2.out.trans ho)).cellOf (hrx i hlt (2 * k) (by omega)).1
      rwa [show ox + i * 6 + 2 * k = ox + i * 6 + k * 2 by omega] at this
     have HV : Hid (∀ wx, Old wr wx -> wx.cell? ⟨bx, ox + i * 6 + k * 2 + 1, none⟩ = some (.int .u64 (C i (2 * k + 1)))) := fun wx ho => by
      have := ((HO2.out.trans ho)).cellOf (hrx i hlt (2 * k + 1) (by omega)).1
      rwa [show ox + i * 6 + (2 * k + 1) = ox + i * 6 + k * 2 + 1 by omega] at this
     have HUu : Hid (U64 (C i (2 * k)) /\ U64 (C i (2 * k + 1))) := ⟨(hrx i hlt (2 * k) (by omega)).2, (hrx i hlt (2 * k + 1) (by omega)).2⟩
     have HPk : Hid (packL (flatF C) (6 * i + 2 * (k + 1)) = packL (flatF C) (6 * i + 2 * k) ++ packL (two7 (C i (2 * k)) (C i (2 * k + 1))) 2) := by
      unfold Hid
      rw [show 6 * i + 2 * (k + 1) = 6 * i + 2 * k + 2 by omega]
      exact pack_two _ _ (zbM C i (2 * k) (by omega)) (by rw [show 6 * i + 2 * k + 1 = 6 * i + (2 * k + 1) by omega]; exact zbM C i (2 * k + 1) (by omega))
     have hws : w.heap.size <= wr.heap.size := HO2.out.size
     clear hrx
     subst hqx
     generalize C i (2 * k) = xu at *
     generalize C i (2 * k + 1) = xv at *
     have zl := zar (flatF C) (6 * i + 2 * k)
     have z8 := zar (two7 xu xv) 2
     go_upto_region 8 with fail
     refine zaa 17 [.k (.string (strOfNums (packL (flatF C) (6 * i + 2 * k)))), .k (.slice (some ⟨bx, ox, none⟩) m c), .k (.int .i64 (i : Int)), .k (.int .i64 (k : Int)), .k (.pointer (some ⟨bx, ox + i * 6, none⟩)), .k (.pointer (some ⟨bx, ox + i * 6 + k * 2, none⟩)), .k (.pointer (some ⟨bx, ox + i * 6 + k * 2, none⟩)), .k (.int .u64 xu), .k (.slice (some ⟨bx, ox, none⟩) m c), .k (.int .i64 (i : Int)), .k (.int .i64 (k : Int)), .k (.pointer (some ⟨bx, ox + i * 6, none⟩)), .k (.pointer (some ⟨bx, ox + i * 6 + k * 2, none⟩)), .k (.pointer (some ⟨bx, ox + i * 6 + k * 2 + 1, none⟩)), .k (.int .u64 xv), two8 w.heap.size xu xv, .k (.string (strOfNums (packL (two7 xu xv) 2)))] (Old wr) (by kernel_rfl) (by kernel_rfl) rfl ((Old.refl _).drew) ?st ?_
     case st =>
      refine .p <| .p <| .p <| .p <| .c (stj (n := m) (c := c) 6 hlt U26) <| .c (saj 2 hkl U74) <| .p <| .c (stl U22 HU.out) <| .p <| .p <| .p <| .c (stj (n := m) (c := c) 6 hlt U26) <| .c (saj 2 hkl U74) <| .p <| .c (stl U22 HV.out) <| .c (stm (ob := fun _ => .cells #[.int .u64 xu, .int .u64 xv] 22) (v := fun s => .slice (some ⟨s, 0, none⟩) 2 2) old_R fun t wx hR _ => ⟨_, rfl, zbG wx w.heap.size 2 [.int .u64 xu, .int .u64 xv] (two7 xu xv) (Nat.le_trans hws hR.size) (by omega) rfl⟩) <| .c (stC (args := fun t => #[t 15]) old_R func130 fun t wx hR hd => ?_) .n
      obtain ⟨bs, e, hN⟩ := hd 15 (by kernel_rfl)
      rw [e] at hN ⊢
      exact (HNu.out bs xu xv wx HUu.out.1 HUu.out.2 hN).mono fun r w' ⟨h, k⟩ => ⟨_, h, k, rfl⟩
     intro t wx hR hk_1
     simp only [fill, Ent.val, two8, Ls0, Ls1, Ld1, Ld0, Ldn]
     have HOx : Hid (Old w wx) := HO2.out.trans hR
     have l1 : 8 * (6 * i + 2 * k) + 16 <= 9223372036854775807 := by omega
     have l2 : ¬ 9223372036854775807 < 8 * (6 * i + 2 * k) + 16 := by omega
     have l3 : 8 * (6 * i + 2 * k) <= 9223372036854775791 := by omega
     have l4 : ¬ 9223372036854775791 < 8 * (6 * i + 2 * k) := by omega
     clear hR hk_1 HU HV HO2
     go_wp2_with fail
     go_roundw
     case rel => exact ⟨k + 1, zab k, by omega, by rw [HPk.out], HOx⟩
     case measure => simp [intOf]; omega
    ·have hk3 : k = 3 := by omega
     subst hk3
     go_wp2_with fail
     go_roundw
     case rel => exact ⟨i + 1, zab i, by omega, rfl, HO2⟩
     case measure => simp [intOf]; omega
  ·have he : m = i := by omega
   subst he
   go_wp2_with fail
   go_ret
   exact ⟨rfl, HO.out⟩
theorem zfx {w w' : World} {base : Nat} {e : TypeId} {sz n : Nat} {v : Value} {xs : List Value} (h : w.ownsRow base e sz v n xs) (ho : Old w w') : w'.ownsRow base e sz v n xs := by
 refine ⟨h.1, ?_⟩
 rcases h.2 with hn | ⟨g, cap, cur, hv, hb, hg, rest⟩
 ·exact Or.inl hn
 ·exact Or.inr ⟨g, cap, cur, hv, hb, (ho.block g (Array.getElem?_eq_some_iff.1 hg).1).trans hg, rest⟩
def strE (base n : Nat) (S : Nat -> List Int) : Ent := .u (fun v w => ∃ b, v = .slice (some ⟨b, 0, none⟩) n n /\ w.ownsRow base 9 1 (.slice (some ⟨b, 0, none⟩) n n) n (zah S n)) fun _ _ _ ⟨b, e, h⟩ ho => ⟨b, e, zfx h ho⟩
def strG (base n : Nat) (S : Nat -> List Int) : Ent := .u (fun v w => ∃ b c, v = .slice (some ⟨b, 0, none⟩) n c /\ w.ownsRow base 9 1 (.slice (some ⟨b, 0, none⟩) n c) n (zah S n)) fun _ _ _ ⟨b, c, e, h⟩ ho => ⟨b, c, e, zfx h ho⟩
theorem str_cat {S S' S'' : Nat -> List Int} {n m : Nat} (h1 : ∀ i, i < n -> S'' i = S i) (h2 : ∀ i, i < m -> S'' (n + i) = S' i) : zah S n ++ zah S' m = zah S'' (n + m) := by
 unfold zah
 rw [List.range_add, List.map_append, List.map_map]
 congr 1
 ·exact List.map_congr_left fun i hi => by rw [h1 i (List.mem_range.1 hi)]
 ·exact List.map_congr_left fun i hi => by simp only [Function.comp]; rw [h2 i (List.mem_range.1 hi)]
theorem str_row {w : World} {base b n c : Nat} {S : Nat -> List Int} (h : w.ownsRow base 9 1 (.slice (some ⟨b, 0, none⟩) n c) n (zah S n)) : ∀ j v, (zah S n)[j]? = some v -> w.cell? ((⟨b, 0, none⟩ : Addr).add j) = some v := fun j v hv => by
 have hadd : (⟨b, 0, none⟩ : Addr).add j = ⟨b, j, none⟩ := by unfold Addr.add; split <;> simp_all
 have hj : j < n := by have := (List.getElem?_eq_some_iff.1 hv).1; simpa [zah] using this
 rw [hadd, World.ownsRow.cellAt h j (by omega), hv]
theorem str_app {w : World} {base base' n m sb sc : Nat} {S S' S'' : Nat -> List Int} {v vx : Value} (hv : ∃ b, v = .slice (some ⟨b, 0, none⟩) n n /\ w.ownsRow base 9 1 (.slice (some ⟨b, 0, none⟩) n n) n (zah S n)) (hx : vx = .slice (some ⟨sb, 0, none⟩) m sc) (hs : w.ownsRow base' 9 1 (.slice (some ⟨sb, 0, none⟩) m sc) m (zah S' m)) (hb : base <= w.heap.size) (h1 : ∀ i, i < n -> S'' i = S i) (h2 : ∀ i, i < m -> S'' (n + i) = S' i) :
  ∃ be b xs ad c news, v = .slice (some b) n n /\ w.ownsRow be 9 1 (.slice (some b) n n) n xs /\ xs.length = n * 1 /\ (∀ j v, xs[j]? = some v -> w.cell? (b.add j) = some v) /\ vx = .slice (some ad) m c /\ news.length = m * 1 /\ (∀ j u, news[j]? = some u -> w.cell? (ad.add j) = some u) /\ (∀ u ∈ news, u.oneCell' = true) /\ be <= w.heap.size /\
   ∀ g cap w', w'.ownsRow be 9 1 (.slice (some ⟨g, 0, none⟩) (n + m) cap) (n + m) (xs ++ news) -> Old w w' -> (strG base (n + m) S'').ok (.slice (some ⟨g, 0, none⟩) (n + m) cap) w' := by
 obtain ⟨b, e, h⟩ := hv
 refine ⟨base, ⟨b, 0, none⟩, zah S n, ⟨sb, 0, none⟩, sc, zah S' m, e, h, by simp [zah], str_row h, hx, by simp [zah], str_row hs, fun u hu => ?_, hb, fun g cap w' h3 _ => ⟨g, cap, rfl, ?_⟩⟩
 ·simp only [zah, List.mem_map] at hu
  obtain ⟨i, _, rfl⟩ := hu
  rfl
 ·rw [str_cat h1 h2] at h3
  exact h3
theorem str_in {w : World} {base b n c : Nat} {S : Nat -> List Int} (h : w.ownsRow base 9 1 (.slice (some ⟨b, 0, none⟩) n c) n (zah S n)) (hS : ∀ i, i < n -> Bts (S i)) : StrsIn w (some ⟨b, 0, none⟩) n S :=
 Or.inr ⟨b, 0, rfl, (World.ownsRow.lt h b rfl).2, fun i hi => ⟨by rw [Nat.zero_add, World.ownsRow.cellAt h i (by omega)]; simp [zah, hi], hS i hi⟩⟩
def comS (P Q G H y : Int) (l : Nat) (C : NN) (no : Nat) (O : NN) (na : Nat) (A : NI) : Nat -> List Int
 | 0 => packL (fiv8 P Q G H y) 5
 | 1 => packL (flatF C) (6 * l)
 | 2 => packL (flatF O) (6 * no)
 | _ => packL A na
def morS (S : Nat -> List Int) (nb : Nat) (B : NI) : Nat -> List Int := fun i => if i < 4 then S i else packL B nb
def namS (c : Int) (S : Nat -> List Int) : Nat -> List Int
 | 0 => [c]
 | i + 1 => S i
theorem numL_le8 {label : List Int} {S : Nat -> List Int} {M : Nat} (h : ∀ i, (S i).length <= M) : ∀ n, (numL label S n).length <= 8 + label.length + n * (8 + M)
 | 0 => by show (zap _ 8 ++ label).length <= _; rw [List.length_append, zal]; omega
 | n + 1 => by
  show (numL label S n ++ (zap _ 8 ++ S n)).length <= _
  have h1 := numL_le8 (label := label) h n
  have h2 := h n
  rw [List.length_append, List.length_append, zal, Nat.add_mul]
  omega
theorem comS_bd (P Q G H y : Int) (l : Nat) (C : NN) (no : Nat) (O : NN) (na : Nat) (A : NI) : ∀ i, Bts (comS P Q G H y l C no O na A i)
 | 0 => zfr _ _
 | 1 => zfr _ _
 | 2 => zfr _ _
 | _ + 3 => zfr _ _
theorem comS_len (P Q G H y : Int) {l : Nat} (C : NN) {no : Nat} (O : NN) {na : Nat} (A : NI) (hl : l <= 80) (hn : no <= 80) (ha : na <= 400) : ∀ i, (comS P Q G H y l C no O na A i).length <= 4000
 | 0 => by show (packL _ _).length <= _; rw [zar]; omega
 | 1 => by show (packL _ _).length <= _; rw [zar]; omega
 | 2 => by show (packL _ _).length <= _; rw [zar]; omega
 | _ + 3 => by show (packL _ _).length <= _; rw [zar]; omega
theorem morS_bd {S : Nat -> List Int} (h : ∀ i, Bts (S i)) (nb : Nat) (B : NI) : ∀ i, Bts (morS S nb B i) := fun i => by unfold morS; split; exact h i; exact zfr _ _
theorem morS_len {S : Nat -> List Int} (h : ∀ i, (S i).length <= 4000) {nb : Nat} (hb : nb <= 400) (B : NI) : ∀ i, (morS S nb B i).length <= 4000 := fun i => by unfold morS; split; exact h i; rw [zar]; omega
theorem namS_bd {c : Int} (hc : 0 <= c /\ c <= 255) {S : Nat -> List Int} (h : ∀ i, Bts (S i)) : ∀ i, Bts (namS c S i)
 | 0 => fun x hx => by rcases List.mem_singleton.1 hx with rfl; omega
 | i + 1 => h i
theorem namS_len {c : Int} {S : Nat -> List Int} (h : ∀ i, (S i).length <= 4000) : ∀ i, (namS c S i).length <= 4000
 | 0 => by show ([c] : List Int).length <= _; simp
 | i + 1 => h i
theorem rchal8_any (P Q G H : Int) (a : OA) (n cap : Nat) (label : List Int) (y : Int) (bi : OA) (l ci : Nat) (C : NN) (bo : OA) (no co : Nat) (O : NN) (ba : OA) (na ca : Nat) (A : NI) (bb : OA) (nb cb : Nat) (B : NI) (bp : OA) (np cp : Nat) (bk : OA) (nk ck : Nat) (bz : OA) (nz cz : Nat) (w : World) (h4 : Four P Q G H) (hlb : Bts label) (hll : label.length <= 1000) (hy : U64 y) (ml : l <= 80) (mo : no <= 80) (ma : na <= 400) (mb : nb <= 400) (hC : BoxsIn w bi l C) (hO : BoxsIn w bo no O) (hA : FacsIn w ba na A) (hB : FacsIn w bb nb B) :
  Calls prog 91 #[gv P Q G H a n cap, .string (strOfNums label), .int .u64 y, .slice bi l ci, .slice bo no co, .agg #[.slice ba na ca, .slice bb nb cb, .slice bp np cp, .slice bk nk ck, .slice bz nz cz]] w (Ret w (.tuple #[.int .u64 (zaj label (namS 120 (comS P Q G H y l C no O na A)) 5 Q), .int .u64 (zaj label (namS 121 (morS (comS P Q G H y l C no O na A) nb B)) 6 Q), .int .u64 (zaj label (namS 122 (morS (comS P Q G H y l C no O na A) nb B)) 6 Q)])) := by
 obtain ⟨i0, hi0, hz0, hz1, hz2⟩ := info_parts strinfo
 obtain ⟨S4, hS4⟩ : ∃ S4, S4 = comS P Q G H y l C no O na A := ⟨_, rfl⟩
 have HNf : Hid (∀ wx v base, Nums wx base v 5 (fiv8 P Q G H y) -> Calls prog 130 #[v] wx (Ret wx (.string (strOfNums (S4 0))))) := fun wx v base hN => by
  obtain ⟨b, c, rfl, _, hf⟩ := hN.facs (fun i _ => by match i with | 0 => exact ⟨h4.p0, h4.p1⟩ | 1 => exact ⟨h4.q0, h4.q1⟩ | 2 => exact ⟨h4.g0, h4.g1⟩ | 3 => exact ⟨h4.h0, h4.h1⟩ | _ + 4 => exact hy)
  rw [hS4]
  exact zaJ b 5 c _ wx (by omega) hf
 have HFi : Hid (∀ wx, Old w wx -> Calls prog 131 #[.slice bi l ci] wx (Ret wx (.string (strOfNums (S4 1))))) := fun wx ho => by rw [hS4]; exact ze7 bi l ci C wx (by omega) (hC.old ho)
 have HFo : Hid (∀ wx, Old w wx -> Calls prog 131 #[.slice bo no co] wx (Ret wx (.string (strOfNums (S4 2))))) := fun wx ho => by rw [hS4]; exact ze7 bo no co O wx (by omega) (hO.old ho)
 have HNa : Hid (∀ wx, Old w wx -> Calls prog 130 #[.slice ba na ca] wx (Ret wx (.string (strOfNums (S4 3))))) := fun wx ho => by rw [hS4]; exact zaJ ba na ca A wx (by omega) (hA.old ho)
 have HNb := hid fun wx (ho : Old w wx) => zaJ bb nb cb B wx (by omega) (hB.old ho)
 have HSb : ∀ i, Bts (S4 i) := fun i => by rw [hS4]; exact comS_bd _ _ _ _ _ _ _ _ _ _ _ i
 have HSl : ∀ i, (S4 i).length <= 4000 := fun i => by rw [hS4]; exact comS_len P Q G H y C O A ml mo ma i
 rw [<- hS4]
 clear hS4
 obtain ⟨S5, hS5⟩ : ∃ S5, S5 = morS S4 nb B := ⟨_, rfl⟩
 have HS5 := hid hS5
 have HTb : ∀ i, Bts (S5 i) := fun i => by rw [hS5]; exact morS_bd HSb nb B i
 have HTl : ∀ i, (S5 i).length <= 4000 := fun i => by rw [hS5]; exact morS_len HSl mb B i
 rw [<- hS5]
 clear hS5
 have HNum : Hid (∀ (c : Int) (S : Nat -> List Int) (n : Nat) wx b base cap, (0 <= c /\ c <= 255) -> (∀ i, Bts (S i)) -> (∀ i, (S i).length <= 4000) -> n <= 6 -> wx.ownsRow base 9 1 (.slice (some ⟨b, 0, none⟩) n cap) n (zah (namS c S) n) -> Calls prog 132 #[.string (strOfNums label), .slice (some ⟨b, 0, none⟩) n cap, .int .u64 Q] wx (Ret wx (.int .u64 (zaj label (namS c S) n Q)))) := fun c S n wx b base cap hc hb hl hn ho => zeO label _ n cap _ Q wx hlb (str_in ho fun i _ => namS_bd hc hb i) (by omega) (by
  have h := numL_le8 (label := label) (namS_len (c := c) hl) n
  have : n * (8 + 4000) <= 6 * 4008 := Nat.mul_le_mul_right _ hn
  omega) h4.q0 h4.q1
 have HNx := hid fun wx b base cap (h : wx.ownsRow base 9 1 (.slice (some ⟨b, 0, none⟩) 5 cap) 5 (zah (namS 120 S4) 5)) => HNum.out 120 S4 5 wx b base cap (by omega) HSb HSl (by omega) h
 have HNy : Hid (∀ (c : Int) wx b base cap, (0 <= c /\ c <= 255) -> wx.ownsRow base 9 1 (.slice (some ⟨b, 0, none⟩) 6 cap) 6 (zah (namS c S5) 6) -> Calls prog 132 #[.string (strOfNums label), .slice (some ⟨b, 0, none⟩) 6 cap, .int .u64 Q] wx (Ret wx (.int .u64 (zaj label (namS c S5) 6 Q)))) := fun c wx b base cap hc h => HNum.out c S5 6 wx b base cap hc HTb HTl (by omega) h
 generalize zaj label (namS 120 S4) 5 Q = X at *
 have HNy1 := hid fun wx b base cap (h : wx.ownsRow base 9 1 (.slice (some ⟨b, 0, none⟩) 6 cap) 6 (zah (namS 121 S5) 6)) => HNy.out 121 wx b base cap (by omega) h
 have HNy2 := hid fun wx b base cap (h : wx.ownsRow base 9 1 (.slice (some ⟨b, 0, none⟩) 6 cap) 6 (zah (namS 122 S5) 6)) => HNy.out 122 wx b base cap (by omega) h
 clear HNy HNum
 generalize zaj label (namS 121 S5) 6 Q = Y at *
 generalize zaj label (namS 122 S5) 6 Q = Z at *
 clear HSb HSl HTb HTl hC hO hA hB hlb hll h4 hy
 have HZ := lain2 w (gc P Q G H a n cap) #[.slice ba na ca, .slice bb nb cb, .slice bp np cp, .slice bk nk ck, .slice bz nz cz] 25 57
 have HG0 := fun w' ho => (HZ.then (W' := w') ho).row 0 (by simp)
 have HT0 := fun w' ho => (HZ.then (W' := w') ho).row 1 (by simp)
 have HW0 := hid HZ.old
 clear HZ
 go_enter func91, ntmps91
 go_upto_region 1 with fail
 generalize ((w.alloc (.cells (gc P Q G H a n cap) 25)).alloc (.cells #[.slice ba na ca, .slice bb nb cb, .slice bp np cp, .slice bk nk ck, .slice bz nz cz] 57)) = W at *
 have HG := hid HG0
 have HT := hid HT0
 clear HG0 HT0
 generalize w.heap.size = gb at *
 refine zaa 19 [.k (.pointer (some ⟨gb, 0, none⟩)), .k (.int .u64 P), .k (.pointer (some ⟨gb, 1, none⟩)), .k (.int .u64 Q), .k (.pointer (some ⟨gb, 2, none⟩)), .k (.int .u64 G), .k (.pointer (some ⟨gb, 3, none⟩)), .k (.int .u64 H), .k (.int .u64 y), numL8 W.heap.size 5 (fiv8 P Q G H y), .k (.string (strOfNums (S4 0))), .k (.slice bi l ci), .k (.string (strOfNums (S4 1))), .k (.slice bo no co), .k (.string (strOfNums (S4 2))), .k (.pointer (some ⟨gb + 1, 0, none⟩)), .k (.slice ba na ca), .k (.string (strOfNums (S4 3))), strE W.heap.size 4 S4] (Old W) (by kernel_rfl) (by kernel_rfl) rfl ((Old.refl _).drew) ?st ?_
 case st =>
  refine .p <| .c (stf 0 U22 HG.out) <| .p <| .c (stf 1 U22 HG.out) <| .p <| .c (stf 2 U22 HG.out) <| .p <| .c (stf 3 U22 HG.out) <| .p <| .c (stm (ob := fun _ => .cells #[.int .u64 P, .int .u64 Q, .int .u64 G, .int .u64 H, .int .u64 y] 22) (v := fun s => .slice (some ⟨s, 0, none⟩) 5 5) old_R fun t wx hR _ => zbG wx W.heap.size 5 [.int .u64 P, .int .u64 Q, .int .u64 G, .int .u64 H, .int .u64 y] (fiv8 P Q G H y) hR.size (by omega) rfl) <| .c (stC (args := fun t => #[t 9]) old_R func130 fun t wx hR hd => ?_) <| .p <| .c (stK old_R func131 (fun wx hx => HFi.out wx (HW0.out.trans hx))) <| .p <| .c (stK old_R func131 (fun wx hx => HFo.out wx (HW0.out.trans hx))) <| .p <| .c (stf 0 U29 HT.out) <| .c (stK old_R func130 (fun wx hx => HNa.out wx (HW0.out.trans hx))) <| .c (stm (ob := fun _ => .cells #[.string (strOfNums (S4 0)), .string (strOfNums (S4 1)), .string (strOfNums (S4 2)), .string (strOfNums (S4 3))] 9) (v := fun s => .slice (some ⟨s, 0, none⟩) 4 4) old_R fun t wx hR _ => ⟨_, rfl, World.ownsRow_lit wx #[.string (strOfNums (S4 0)), .string (strOfNums (S4 1)), .string (strOfNums (S4 2)), .string (strOfNums (S4 3))] 4 hR.size (by unfold maxLen; omega) rfl⟩) .n
  exact (HNf.out _ _ _ (hd 9 (by kernel_rfl))).mono fun r w' ⟨h, k⟩ => ⟨_, h, k, rfl⟩
 intro t wx hR hk
 simp only [fill, Ent.val, numL8, strE, Ls0, Ls1, Ld1, Ld0, Ldn]
 obtain ⟨cm, ecm, hcm⟩ : ∃ b, t 18 = .slice (some ⟨b, 0, none⟩) 4 4 /\ wx.ownsRow W.heap.size 9 1 (.slice (some ⟨b, 0, none⟩) 4 4) 4 (zah S4 4) := hk 18 (by omega)
 rw [ecm]
 go_upto_region 2 with fail
 have HO2 := hid hR
 have HCm := hid fun wy (ho : Old wx wy) => zfx hcm ho
 have HSi := (show Hid (_ /\ _ /\ _ /\ _) from ⟨hi0, hz0, hz1, hz2⟩)
 clear hR hk ecm hcm HNf HFi HFo HNa
 clear hi0 hz0 hz1 hz2
 generalize wx = W2 at *
 have HG2 := hid fun wx (ho : Old W2 wx) => HG.out _ (HO2.out.trans ho)
 have HT2 := hid fun wx (ho : Old W2 wx) => HT.out _ (HO2.out.trans ho)
 refine zaa 7 [strE W2.heap.size 0 S4, .k (.slice (some ⟨cm, 0, none⟩) 4 4), strG W2.heap.size (0 + 4) S4, .k (.pointer (some ⟨gb + 1, 1, none⟩)), .k (.slice bb nb cb), .k (.string (strOfNums (packL B nb))), strE W2.heap.size 1 (fun _ => packL B nb)] (Old W2) (by kernel_rfl) (by kernel_rfl) rfl ((Old.refl _).drew) ?st ?_
 case st =>
  refine .c (stm (ob := fun _ => .cells #[] 9) (v := fun s => .slice (some ⟨s, 0, none⟩) 0 0) old_R fun t wx hR _ => ⟨_, rfl, World.ownsRow_lit wx #[] 0 hR.size (by unfold maxLen; omega) rfl⟩) <| .p <| .c (stA 0 4 (vs := fun t => t 0) (vx := fun t => .slice (some ⟨cm, 0, none⟩) 4 4) old_R U143 HSi.out rfl (by decide) (by decide) (by decide) (by decide) (by decide) fun t wx hR hd => str_app (base := W2.heap.size) (hd 0 (by kernel_rfl)) rfl (HCm.out wx hR) hR.size (fun i hi => by omega) (fun i hi => by rw [Nat.zero_add])) <| .p <| .c (stf 1 U29 HT2.out) <| .c (stK old_R func130 (fun wx hx => HNb.out wx ((HW0.out.trans HO2.out).trans hx))) <| .c (stm (ob := fun _ => .cells #[.string (strOfNums (packL B nb))] 9) (v := fun s => .slice (some ⟨s, 0, none⟩) 1 1) old_R fun t wx hR _ => ⟨_, rfl, World.ownsRow_lit wx #[.string (strOfNums (packL B nb))] 1 hR.size (by unfold maxLen; omega) rfl⟩) .n
 intro t_1 wy hR hk
 simp only [fill, Ent.val, strG, strE, Ls0, Ls1, Ld1, Ld0, Ldn]
 obtain ⟨g2, c2, e2, h2⟩ : ∃ b c, t_1 2 = .slice (some ⟨b, 0, none⟩) 4 c /\ wy.ownsRow W2.heap.size 9 1 (.slice (some ⟨b, 0, none⟩) 4 c) 4 (zah S4 4) := hk 2 (by omega)
 obtain ⟨l2, e6, h6⟩ : ∃ b, t_1 6 = .slice (some ⟨b, 0, none⟩) 1 1 /\ wy.ownsRow W2.heap.size 9 1 (.slice (some ⟨b, 0, none⟩) 1 1) 1 (zah (fun _ => packL B nb) 1) := hk 6 (by omega)
 rw [e2, e6]
 have HOy := hid hR
 have hyz : W2.heap.size <= wy.heap.size := hR.size
 obtain ⟨hi0, hz0, hz1, hz2⟩ := HSi.out
 clear hk hR e2 e6
 go_wp2_with (at_builtin; refine wpList_append_lies _ rfl _ _ 143 rfl W2.heap.size 9 i0 _ 1 16 U143 hi0 hz0 hz1 hz2 rfl (by decide) _ _ _ rfl h2 ⟨l2, 0, none⟩ 1 1 (zah (fun _ => packL B nb) 1) rfl rfl ?c1 ?c2 (by decide) ?c3 ?c4 hyz _ rfl ?_)
 case c1 => exact str_row h6
 case c2 => intro u hu; simp [zah] at hu; rcases hu with rfl; rfl
 case c3 => unfold maxLen; omega
 case c4 => omega
 intro g3 c3 w3 hown3 hgrow3 hat3 _
 have HM3 : Hid (w3.ownsRow W2.heap.size 9 1 (.slice (some ⟨g3, 0, none⟩) 5 c3) 5 (zah S5 5)) := by
  have h := str_cat (S := S4) (S' := fun _ => packL B nb) (S'' := S5) (n := 4) (m := 1) (fun i hi => by rw [HS5.out]; unfold morS; rw [if_pos hi]) (fun i hi => by rw [HS5.out]; unfold morS; rw [if_neg (by omega)])
  rw [h] at hown3
  exact hown3
 have HO3 := hid (HOy.out.grown hgrow3 fun q hq => (World.ownsRow.lt h2 q hq).1)
 clear hown3 hgrow3 hat3 h2 h6 hyz HOy hi0 hz0 hz1 hz2 HNb
 go_upto_region 3 with fail
 have HC3 := hid fun wx (ho : Old w3 wx) => HCm.out wx (HO3.out.trans ho)
 have HO30 := hid (HO2.out.trans HO3.out)
 clear HCm HG2 HT2 HO3 HS5 HT
 have HGk3 := hid fun wx (ho : Old w3 wx) => HG.out _ (HO30.out.trans ho)
 refine zaa 6 [.k (.string (strOfNums label)), strE w3.heap.size 1 (fun _ => [120]), .k (.slice (some ⟨cm, 0, none⟩) 4 4), strG w3.heap.size (1 + 4) (namS 120 S4), .k (.pointer (some ⟨gb, 1, none⟩)), .k (.int .u64 Q)] (Old w3) (by kernel_rfl) (by kernel_rfl) rfl ((Old.refl _).drew) ?st ?_
 case st =>
  refine .p <| .c (stm (ob := fun _ => .cells #[.string (strOfNums [120])] 9) (v := fun s => .slice (some ⟨s, 0, none⟩) 1 1) old_R fun t wx hR _ => ⟨_, rfl, World.ownsRow_lit wx #[.string (strOfNums [120])] 1 hR.size (by unfold maxLen; omega) rfl⟩) <| .p <| .c (stA 1 4 (vs := fun t => t 1) (vx := fun t => .slice (some ⟨cm, 0, none⟩) 4 4) old_R U143 HSi.out rfl (by decide) (by decide) (by decide) (by decide) (by decide) fun t wx hR hd => str_app (base := w3.heap.size) (hd 1 (by kernel_rfl)) rfl (HC3.out wx hR) hR.size (fun i hi => by rw [show i = 0 by omega]; rfl) (fun i hi => by rw [Nat.add_comm 1 i]; rfl)) <| .p <| .c (stf 1 U22 HGk3.out) .n
 intro tk3 wy hR hk
 simp only [fill, Ent.val, strG, strE, Ls0, Ls1, Ld1, Ld0, Ldn]
 obtain ⟨bq3, cq3, eq3, hq3⟩ : ∃ b c, tk3 3 = .slice (some ⟨b, 0, none⟩) 5 c /\ wy.ownsRow w3.heap.size 9 1 (.slice (some ⟨b, 0, none⟩) 5 c) 5 (zah (namS 120 S4) 5) := hk 3 (by omega)
 rw [eq3]
 have HOq := hid hR
 clear hk hR eq3 HGk3
 go_upto_region 4 with (go_at_call 132; refine (HNx.out _ _ _ _ hq3).mono ?_; rintro e w4 ⟨rfl, oq⟩)
 have HO40 := hid ((HO30.out.trans HOq.out).trans oq)
 have HM4 := hid (zfx HM3.out (HOq.out.trans oq))
 clear oq HOq hq3 HM3 HO30 HNx
 clear HC3
 have HGk4 := hid fun wx (ho : Old w4 wx) => HG.out _ (HO40.out.trans ho)
 refine zaa 6 [.k (.string (strOfNums label)), strE w4.heap.size 1 (fun _ => [121]), .k (.slice (some ⟨g3, 0, none⟩) 5 c3), strG w4.heap.size (1 + 5) (namS 121 S5), .k (.pointer (some ⟨gb, 1, none⟩)), .k (.int .u64 Q)] (Old w4) (by kernel_rfl) (by kernel_rfl) rfl ((Old.refl _).drew) ?st ?_
 case st =>
  refine .p <| .c (stm (ob := fun _ => .cells #[.string (strOfNums [121])] 9) (v := fun s => .slice (some ⟨s, 0, none⟩) 1 1) old_R fun t wx hR _ => ⟨_, rfl, World.ownsRow_lit wx #[.string (strOfNums [121])] 1 hR.size (by unfold maxLen; omega) rfl⟩) <| .p <| .c (stA 1 5 (vs := fun t => t 1) (vx := fun t => .slice (some ⟨g3, 0, none⟩) 5 c3) old_R U143 HSi.out rfl (by decide) (by decide) (by decide) (by decide) (by decide) fun t wx hR hd => str_app (base := w4.heap.size) (hd 1 (by kernel_rfl)) rfl (zfx HM4.out hR) hR.size (fun i hi => by rw [show i = 0 by omega]; rfl) (fun i hi => by rw [Nat.add_comm 1 i]; rfl)) <| .p <| .c (stf 1 U22 HGk4.out) .n
 intro tk4 wy hR hk
 simp only [fill, Ent.val, strG, strE, Ls0, Ls1, Ld1, Ld0, Ldn]
 obtain ⟨bq4, cq4, eq4, hq4⟩ : ∃ b c, tk4 3 = .slice (some ⟨b, 0, none⟩) 6 c /\ wy.ownsRow w4.heap.size 9 1 (.slice (some ⟨b, 0, none⟩) 6 c) 6 (zah (namS 121 S5) 6) := hk 3 (by omega)
 rw [eq4]
 have HOq := hid hR
 clear hk hR eq4 HGk4
 go_upto_region 5 with (go_at_call 132; refine (HNy1.out _ _ _ _ hq4).mono ?_; rintro e w5 ⟨rfl, oq⟩)
 have HO50 := hid ((HO40.out.trans HOq.out).trans oq)
 have HM5 := hid (zfx HM4.out (HOq.out.trans oq))
 clear oq HOq hq4 HM4 HO40 HNy1
 have HGk5 := hid fun wx (ho : Old w5 wx) => HG.out _ (HO50.out.trans ho)
 refine zaa 6 [.k (.string (strOfNums label)), strE w5.heap.size 1 (fun _ => [122]), .k (.slice (some ⟨g3, 0, none⟩) 5 c3), strG w5.heap.size (1 + 5) (namS 122 S5), .k (.pointer (some ⟨gb, 1, none⟩)), .k (.int .u64 Q)] (Old w5) (by kernel_rfl) (by kernel_rfl) rfl ((Old.refl _).drew) ?st ?_
 case st =>
  refine .p <| .c (stm (ob := fun _ => .cells #[.string (strOfNums [122])] 9) (v := fun s => .slice (some ⟨s, 0, none⟩) 1 1) old_R fun t wx hR _ => ⟨_, rfl, World.ownsRow_lit wx #[.string (strOfNums [122])] 1 hR.size (by unfold maxLen; omega) rfl⟩) <| .p <| .c (stA 1 5 (vs := fun t => t 1) (vx := fun t => .slice (some ⟨g3, 0, none⟩) 5 c3) old_R U143 HSi.out rfl (by decide) (by decide) (by decide) (by decide) (by decide) fun t wx hR hd => str_app (base := w5.heap.size) (hd 1 (by kernel_rfl)) rfl (zfx HM5.out hR) hR.size (fun i hi => by rw [show i = 0 by omega]; rfl) (fun i hi => by rw [Nat.add_comm 1 i]; rfl)) <| .p <| .c (stf 1 U22 HGk5.out) .n
 intro tk5 wy hR hk
 simp only [fill, Ent.val, strG, strE, Ls0, Ls1, Ld1, Ld0, Ldn]
 obtain ⟨bq5, cq5, eq5, hq5⟩ : ∃ b c, tk5 3 = .slice (some ⟨b, 0, none⟩) 6 c /\ wy.ownsRow w5.heap.size 9 1 (.slice (some ⟨b, 0, none⟩) 6 c) 6 (zah (namS 122 S5) 6) := hk 3 (by omega)
 rw [eq5]
 have HOq := hid hR
 clear hk hR eq5 HGk5
 go_upto_region 6 with (go_at_call 132; refine (HNy2.out _ _ _ _ hq5).mono ?_; rintro e w6 ⟨rfl, oq⟩)
 have HO60 := hid ((HO50.out.trans HOq.out).trans oq)
 have HM6 := hid (zfx HM5.out (HOq.out.trans oq))
 clear oq HOq hq5 HM5 HO50 HNy2
 go_wp2_with fail
 go_ret3
 exact ⟨rfl, HW0.out.trans HO60.out⟩
theorem chx8_eq (label : List Int) (P Q G H y : Int) (l : Nat) (C : NN) (no : Nat) (O : NN) (n : Nat) (A : NI) : zaj label (namS 120 (comS P Q G H y l C no O n A)) 5 Q = chX label Q (knwS P Q G H y l C no O) n A := by
 unfold chX
 exact zbf fun i hi => by
  match i, hi with
  | 0, _ => rfl
  | 1, _ => rfl
  | 2, _ => rfl
  | 3, _ => rfl
  | 4, _ => rfl
theorem chyz8_eq (c : Int) (label : List Int) (P Q G H y : Int) (l : Nat) (C : NN) (no : Nat) (O : NN) (n : Nat) (A B : NI) : zaj label (namS c (morS (comS P Q G H y l C no O n A) n B)) 6 Q = chYZ c label Q (knwS P Q G H y l C no O) n A B := by
 unfold chYZ
 exact zbf fun i hi => by
  match i, hi with
  | 0, _ => rfl
  | 1, _ => rfl
  | 2, _ => rfl
  | 3, _ => rfl
  | 4, _ => rfl
  | 5, _ => rfl
end
section
open Go.RowKit
theorem zfz {n : Nat} {X : NI} : sameB n X n X = true := by unfold sameB; simp
theorem zgm (ba1 : OA) (na ca1 : Nat) (ba2 : OA) (ca2 : Nat) (Xa : NI) (bb1 : OA) (nb cb1 : Nat) (bb2 : OA) (cb2 : Nat) (Xb : NI) (bp1 : OA) (np cp1 : Nat) (bp2 : OA) (cp2 : Nat) (Xp : NI) (bk1 : OA) (nk ck1 : Nat) (bk2 : OA) (ck2 : Nat) (Xk : NI) (bz1 : OA) (nz cz1 : Nat) (bz2 : OA) (cz2 : Nat) (Xz : NI) (w : World) (ma : na <= 9223372036854775807) (mb : nb <= 9223372036854775807) (mp : np <= 9223372036854775807) (mk : nk <= 9223372036854775807) (mz : nz <= 9223372036854775807) (ha1 : FacsIn w ba1 na Xa) (ha2 : FacsIn w ba2 na Xa) (hb1 : FacsIn w bb1 nb Xb) (hb2 : FacsIn w bb2 nb Xb) (hp1 : FacsIn w bp1 np Xp) (hp2 : FacsIn w bp2 np Xp) (hk1 : FacsIn w bk1 nk Xk) (hk2 : FacsIn w bk2 nk Xk) (hz1 : FacsIn w bz1 nz Xz) (hz2 : FacsIn w bz2 nz Xz) :
  Calls prog 33 #[.agg #[.slice ba1 na ca1, .slice bb1 nb cb1, .slice bp1 np cp1, .slice bk1 nk ck1, .slice bz1 nz cz1], .agg #[.slice ba2 na ca2, .slice bb2 nb cb2, .slice bp2 np cp2, .slice bk2 nk ck2, .slice bz2 nz cz2]] w (Ret w (.bool true)) := by
 have HSa : Hid (∀ wx, Old w wx -> Calls prog 19 #[.slice ba1 na ca1, .slice ba2 na ca2] wx (Ret wx (.bool true))) := fun wx ho => by
  have h := zcd ba1 na ca1 Xa ba2 na ca2 Xa wx ma (ha1.old ho) (ha2.old ho)
  rw [zfz] at h
  exact h
 have HSb : Hid (∀ wx, Old w wx -> Calls prog 19 #[.slice bb1 nb cb1, .slice bb2 nb cb2] wx (Ret wx (.bool true))) := fun wx ho => by
  have h := zcd bb1 nb cb1 Xb bb2 nb cb2 Xb wx mb (hb1.old ho) (hb2.old ho)
  rw [zfz] at h
  exact h
 have HSp : Hid (∀ wx, Old w wx -> Calls prog 19 #[.slice bp1 np cp1, .slice bp2 np cp2] wx (Ret wx (.bool true))) := fun wx ho => by
  have h := zcd bp1 np cp1 Xp bp2 np cp2 Xp wx mp (hp1.old ho) (hp2.old ho)
  rw [zfz] at h
  exact h
 have HSz : Hid (∀ wx, Old w wx -> Calls prog 93 #[cv bk1 nk ck1 bz1 nz cz1, cv bk2 nk ck2 bz2 nz cz2] wx (Ret wx (.bool true))) := fun wx ho => by
  have h := rsame7_any bk1 nk ck1 Xk bz1 nz cz1 Xz bk2 nk ck2 Xk bz2 nz cz2 Xz wx mk mz (hk1.old ho) (hz1.old ho) (hk2.old ho) (hz2.old ho)
  rw [zfz, zfz] at h
  exact h
 clear ha1 ha2 hb1 hb2 hp1 hp2 hk1 hk2 hz1 hz2
 have HZ := lain2 w #[.slice ba1 na ca1, .slice bb1 nb cb1, .slice bp1 np cp1, .slice bk1 nk ck1, .slice bz1 nz cz1] #[.slice ba2 na ca2, .slice bb2 nb cb2, .slice bp2 np cp2, .slice bk2 nk ck2, .slice bz2 nz cz2] 57 57
 have HG0 := fun w' ho => (HZ.then (W' := w') ho).row 0 (by simp)
 have HT0 := fun w' ho => (HZ.then (W' := w') ho).row 1 (by simp)
 have HW0 : Hid (Old w ((w.alloc (.cells #[.slice ba1 na ca1, .slice bb1 nb cb1, .slice bp1 np cp1, .slice bk1 nk ck1, .slice bz1 nz cz1] 57)).alloc (.cells #[.slice ba2 na ca2, .slice bb2 nb cb2, .slice bp2 np cp2, .slice bk2 nk ck2, .slice bz2 nz cz2] 57))) := HZ.old
 clear HZ
 go_enter func33, ntmps33
 go_upto_region 1 with fail
 generalize ((w.alloc (.cells #[.slice ba1 na ca1, .slice bb1 nb cb1, .slice bp1 np cp1, .slice bk1 nk ck1, .slice bz1 nz cz1] 57)).alloc (.cells #[.slice ba2 na ca2, .slice bb2 nb cb2, .slice bp2 np cp2, .slice bk2 nk ck2, .slice bz2 nz cz2] 57)) = W at *
 have HG : ∀ wx, Old W wx -> wx.heap[w.heap.size]? = some (.cells #[.slice ba1 na ca1, .slice bb1 nb cb1, .slice bp1 np cp1, .slice bk1 nk ck1, .slice bz1 nz cz1] 57 (0, 0)) := HG0
 have HT : ∀ wx, Old W wx -> wx.heap[w.heap.size + 1]? = some (.cells #[.slice ba2 na ca2, .slice bb2 nb cb2, .slice bp2 np cp2, .slice bk2 nk ck2, .slice bz2 nz cz2] 57 (0, 0)) := HT0
 clear HG0 HT0
 generalize w.heap.size = gb at *
 have HC : Hid (∀ wx, Old W wx -> wx.cell? ⟨gb, 0, none⟩ = some (.slice ba1 na ca1) /\ wx.cell? ⟨gb + 1, 0, none⟩ = some (.slice ba2 na ca2) /\ wx.cell? ⟨gb, 1, none⟩ = some (.slice bb1 nb cb1) /\ wx.cell? ⟨gb + 1, 1, none⟩ = some (.slice bb2 nb cb2) /\ wx.cell? ⟨gb, 2, none⟩ = some (.slice bp1 np cp1) /\ wx.cell? ⟨gb + 1, 2, none⟩ = some (.slice bp2 np cp2) /\ wx.cell? ⟨gb, 3, none⟩ = some (.slice bk1 nk ck1) /\ wx.cell? ⟨gb + 1, 3, none⟩ = some (.slice bk2 nk ck2) /\ wx.cell? ⟨gb, 4, none⟩ = some (.slice bz1 nz cz1) /\ wx.cell? ⟨gb + 1, 4, none⟩ = some (.slice bz2 nz cz2)) := fun wx ho => ⟨Y0 (HG _ ho), Y0 (HT _ ho), Y1 (HG _ ho), Y1 (HT _ ho), Y2 (HG _ ho), Y2 (HT _ ho), Y3 (HG _ ho), Y3 (HT _ ho), Y4 (HG _ ho), Y4 (HT _ ho)⟩
 clear HG HT
 obtain ⟨q0, q1, q2, q3, q4, q5, q6, q7, q8, q9⟩ := HC.out _ (Old.refl _)
 go_wp2_with (first
  | (have hg := o3; go_at_call 93; refine (HSz.out _ (((HW0.out.trans o1).trans o2).trans o3)).mono ?_; rintro e w4 ⟨rfl, o4⟩)
  | (have hg := o2; go_at_call 19; refine (HSp.out _ ((HW0.out.trans o1).trans o2)).mono ?_; rintro e w3 ⟨rfl, o3⟩; clear q0 q1 q2 q3 q4 q5 q6 q7 q8 q9 hg; obtain ⟨q0, q1, q2, q3, q4, q5, q6, q7, q8, q9⟩ := HC.out _ ((o1.trans o2).trans o3))
  | (have hg := o1; go_at_call 19; refine (HSb.out _ (HW0.out.trans o1)).mono ?_; rintro e w2 ⟨rfl, o2⟩; clear q0 q1 q2 q3 q4 q5 q6 q7 q8 q9 hg; obtain ⟨q0, q1, q2, q3, q4, q5, q6, q7, q8, q9⟩ := HC.out _ (o1.trans o2))
  | (go_at_call 19; refine (HSa.out _ HW0.out).mono ?_; rintro e w1 ⟨rfl, o1⟩; clear q0 q1 q2 q3 q4 q5 q6 q7 q8 q9; obtain ⟨q0, q1, q2, q3, q4, q5, q6, q7, q8, q9⟩ := HC.out _ o1))
 go_ret
 exact ⟨rfl, (((HW0.out.trans o1).trans o2).trans o3).trans o4⟩
end
end Go.Proofs.YtlnmjbbpenhdbaaGreat
