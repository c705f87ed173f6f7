/-
  What the proof needs, part 22.
-/
import Derived.Test.YtlnmjbbpenhdbaaGreatKp20
import Derived.Test.YtlnmjbbpenhdbaaGreatKp21
namespace Go.Proofs.YtlnmjbbpenhdbaaGreat
open Tryz
open List renaming set_cons_zero → Ls0, set_cons_succ → Ls1, drop_succ_cons → Ld1, drop_zero → Ld0, drop_nil → Ldn
open Tryz renaming underlying3 → U3, underlying22 → U22, underlying25 → U25, underlying27 → U27, underlying28 → U28, underlying29 → U29, underlying31 → U31, underlying41 → U41, underlying50 → U50, underlying57 → U57, underlying63 → U63
set_option linter.unusedSimpArgs false
set_option linter.unusedVariables false
set_option maxRecDepth 100000
set_option maxHeartbeats 32000000
section
open Go Go.RowKit
theorem rexp8_yes (P Q G H : Int) (a : OA) (m cap : Nat) (bo : OA) (co : Nat) (O : NI) (ba : OA) (na ca : Nat) (X : Int) (bb : OA) (nb cb : Nat) (Y Z : Int) (bp : OA) (np cp : Nat) (bρ : OA) (cρ : Nat) (Rh : NN) (bR : OA) (cR : Nat) (R : NI) (bS : OA) (cS : Nat) (S : NI) (bT : OA) (cT : Nat) (T : NI) (bD : OA) (nD cD n : Nat) (w : World) (hQ : 0 < Q) (hQu : U64 Q) (hX : U64 X) (hY : U64 Y) (hZ : U64 Z) (hor : ordR n O = true) (hO : IntsIn w bo n O) (hρ : RhoIn w bρ n Rh) (hR : FacsIn w bR n R) (hS : FacsIn w bS n S) (hT : FacsIn w bT n T) :
  Calls prog 27 #[gv P Q G H a m cap, .slice bo n co, tk ba na ca X bb nb cb Y Z bp np cp, dv bρ n cρ bR n cR bS n cS bT n cT bD nD cD] w (GivF w (7 * n + 3) (exF Q X Y Z n (fun i => (O i).toNat) R S T Rh)) := by
 have h8 : n <= 8 := (zfB.1 hor).1.2
 have h1 : 0 < n := (zfB.1 hor).1.1
 have hP : OrdP n O := zaA.1 (by have := hor; unfold ordR at this; exact (Bool.and_eq_true_iff.1 this).2)
 have HOr : Hid (∀ wx, Old w wx -> Calls prog 56 #[.slice bo n co] wx (Ret wx (.bool true))) := fun wx hx => by have h := zbz bo n co O wx (by omega) (hO.old hx); rw [hor] at h; exact h
 have HBd : Hid (∀ i, i < n -> 0 <= O i /\ O i < 1000) := fun i hi => by have := hP.2.1 i hi; omega
 obtain ⟨E, hE⟩ : ∃ E, E = exF Q X Y Z n (fun i => (O i).toNat) R S T Rh := ⟨_, rfl⟩
 obtain ⟨o, ho8⟩ : ∃ o : Nat -> Nat, o = (fun i => (O i).toNat) := ⟨_, rfl⟩
 have Hoi : Hid (∀ i, i < n -> (o i : Int) = O i) := fun i hi => by rw [ho8]; have := HBd.out i hi; show ((O i).toNat : Int) = O i; omega
 rw [<- hE]
 rw [<- ho8] at hE
 have HEa : Hid (∀ i, i < n -> E i = (O i + 1) % Q /\ E (n + i) = R i % Q /\ E (2 * n + i) = Go.Proofs.YtlnmjbbpenhdbaaGreat.bE Q X o i /\ E (3 * n + i) = S i % Q /\ E (4 * n + i) = Go.Proofs.YtlnmjbbpenhdbaaGreat.dE Q X Y Z o i /\ E (5 * n + i) = Go.Proofs.YtlnmjbbpenhdbaaGreat.uE Q Y R S i /\ (0 < i -> E (6 * n + i - 1) = T i % Q)) := fun i hi => by
  have h := exF_at (Q := Q) (X := X) (Y := Y) (Z := Z) (o := o) (R := R) (S := S) (T := T) (Rho := Rh) hi
  rw [<- hE, Hoi.out i hi] at h
  exact h
 have HEe : Hid (E (7 * n - 1) = vE Q X Y Z o R S T (n - 1) /\ ∀ w, w < 3 -> rhoE Q X o Rh w n = E (7 * n + w)) := by unfold Hid; rw [hE]; exact exF_end h1
 obtain ⟨Rr, hRr⟩ : ∃ Rr, Rr = rhoE Q X o Rh := ⟨_, rfl⟩
 have HRz : Hid (∀ w, Rr w 0 = 0) := fun w => by rw [hRr]; rfl
 have HRn : Hid (∀ w i, Rr w (i + 1) = subI (Rr w i) (mulI (Go.Proofs.YtlnmjbbpenhdbaaGreat.bE Q X o i) (Rh i w) Q) Q) := fun w i => by rw [hRr]; rfl
 have HRu : Hid (∀ w i, U64 (Rr w i)) := fun w i => by
  rw [hRr]
  cases i with
  | zero => exact ⟨by show (0 : Int) <= 0; omega, by show (0 : Int) <= _; omega⟩
  | succ i => exact zc2 _ _ _
 have HVn : Hid (∀ i, 0 < i -> Go.Proofs.YtlnmjbbpenhdbaaGreat.vP Q X Y Z o R S T (i + 1) = addI (mulI (Go.Proofs.YtlnmjbbpenhdbaaGreat.vP Q X Y Z o R S T i) (Go.Proofs.YtlnmjbbpenhdbaaGreat.dE Q X Y Z o i) Q) (T i) Q) := fun i h => vP_next h
 have HV0 : Hid (Go.Proofs.YtlnmjbbpenhdbaaGreat.vP Q X Y Z o R S T 1 = Go.Proofs.YtlnmjbbpenhdbaaGreat.uE Q Y R S 0) := rfl
 have HVe : Hid (Go.Proofs.YtlnmjbbpenhdbaaGreat.vP Q X Y Z o R S T n = E (7 * n - 1)) := by
  have h := HEe.out.1
  unfold Hid
  rw [h]
  obtain ⟨j, hj⟩ : ∃ j, n = j + 1 := ⟨n - 1, by omega⟩
  rw [hj]
  rfl
 have HVz : Hid (Go.Proofs.YtlnmjbbpenhdbaaGreat.vP Q X Y Z o R S T 0 = 0) := rfl
 have HVu : Hid (∀ i, U64 (Go.Proofs.YtlnmjbbpenhdbaaGreat.vP Q X Y Z o R S T i)) := fun i => by
  match i with
  | 0 => exact ⟨by show (0 : Int) <= 0; omega, by show (0 : Int) <= _; omega⟩
  | 1 => exact zba _ _ _
  | i + 2 => exact zba _ _ _
 have HRe3 : Hid (∀ w, w < 3 -> Rr w n = E (7 * n + w)) := by unfold Hid; rw [hRr]; exact HEe.out.2
 have HPw : Hid (∀ wx i, i < n -> Calls prog 62 #[gv P Q G H a m cap, .int .u64 X, .int .i64 (O i + 1)] wx (Ret wx (.int .u64 (Go.Proofs.YtlnmjbbpenhdbaaGreat.bE Q X o i)))) := fun wx i hi => by
  unfold Go.Proofs.YtlnmjbbpenhdbaaGreat.bE
  rw [Hoi.out i hi]
  exact zfv P Q G H a m cap X _ wx hX (by have := HBd.out i hi; omega)
 have HDd : Hid (∀ wx i, i < n -> Old w wx -> Calls prog 69 #[gv P Q G H a m cap, .slice bo n co, tk ba na ca X bb nb cb Y Z bp np cp, .int .i64 (i : Int)] wx (Ret wx (.int .u64 (Go.Proofs.YtlnmjbbpenhdbaaGreat.dE Q X Y Z o i)))) := fun wx i hi ho => by
  unfold Go.Proofs.YtlnmjbbpenhdbaaGreat.dE Go.Proofs.YtlnmjbbpenhdbaaGreat.bE
  rw [Hoi.out i hi]
  exact rd8_any P Q G H a m cap bo n co O ba na ca X bb nb cb Y Z bp np cp i wx hi hX hY hZ (hO.old ho) (HBd.out i hi)
 have HbU : Hid (∀ i, U64 (Go.Proofs.YtlnmjbbpenhdbaaGreat.bE Q X o i)) := fun i => zbi _ _ _
 have HdU : Hid (∀ i, U64 (Go.Proofs.YtlnmjbbpenhdbaaGreat.dE Q X Y Z o i)) := fun i => zc2 _ _ _
 have HuE : Hid (∀ i, Go.Proofs.YtlnmjbbpenhdbaaGreat.uE Q Y R S i = addI (mulI Y (R i) Q) (S i) Q) := fun i => rfl
 generalize Go.Proofs.YtlnmjbbpenhdbaaGreat.bE Q X o = bE at *
 generalize Go.Proofs.YtlnmjbbpenhdbaaGreat.dE Q X Y Z o = dE at *
 generalize Go.Proofs.YtlnmjbbpenhdbaaGreat.uE Q Y R S = uE at *
 generalize Go.Proofs.YtlnmjbbpenhdbaaGreat.vP Q X Y Z o R S T = vP at *
 have HRhu := hid fun j k (hj : j < n) (hk : k < 3) => hρ.u64 hj hk
 have HRru := hid hR.u64
 have HSu := hid hS.u64
 have HTu := hid hT.u64
 obtain ⟨N, hN⟩ : ∃ N, N = 7 * n + 3 := ⟨_, rfl⟩
 rw [<- hN]
 have HNN := hid hN
 have hN8 : N <= 80 := by omega
 have k1 : IntKind.i64.wrap (7 * (n : Int)) = 7 * (n : Int) := by rw [IntKind.wrap_i64]; omega
 have k2 : IntKind.i64.wrap (7 * (n : Int) + 3) = (N : Int) := by rw [IntKind.wrap_i64]; omega
 have hmk := zaP N hN8
 have HQ := hid hQ
 rcases hO with h0 | ⟨bo, oo, rfl, _, hro⟩
 ·omega
 rcases hR with h0 | ⟨rb, ro, rfl, _, hrr⟩
 ·omega
 rcases hS with h0 | ⟨sb, so, rfl, _, hrs⟩
 ·omega
 rcases hT with h0 | ⟨tb, tof, rfl, _, hrt⟩
 ·omega
 rcases hρ with h0 | ⟨hb, ho, rfl, _, hrh⟩
 ·omega
 have HO0 := hid fun wx i (hi : i < n) (ho : Old w wx) => ho.cellOf (hro i hi).1
 have HR0 := hid fun wx i (hi : i < n) (ho : Old w wx) => ho.cellOf (hrr i hi).1
 have HS0 := hid fun wx i (hi : i < n) (ho : Old w wx) => ho.cellOf (hrs i hi).1
 have HT0 := hid fun wx i (hi : i < n) (ho : Old w wx) => ho.cellOf (hrt i hi).1
 have HH0 := hid fun wx j k (hj : j < n) (hk : k < 3) (ho : Old w wx) => ho.cellOf (hrh j hj k hk).1
 clear hE ho8 hN hRr hro hrr hrs hrt hrh hP hor hQ hX hZ HEe
 have HYu := hid hY
 clear hY hQu
 have HZ := lain3 w (gc P Q G H a m cap) (tkc ba na ca X bb nb cb Y Z bp np cp) (dvc (some ⟨hb, ho, none⟩) n cρ (some ⟨rb, ro, none⟩) n cR (some ⟨sb, so, none⟩) n cS (some ⟨tb, tof, none⟩) n cT bD nD cD) 25 41 31
 have HG0 := fun w' ho => (HZ.then (W' := w') ho).row 0 (by simp)
 have HTk0 := fun w' ho => (HZ.then (W' := w') ho).row 1 (by simp)
 have HD0 := fun w' ho => (HZ.then (W' := w') ho).row 2 (by simp)
 have HW0 := hid HZ.old
 clear HZ
 go_enter func27, ntmps27
 go_upto_region 1 with fail
 generalize (((w.alloc (.cells (gc P Q G H a m cap) 25)).alloc (.cells (tkc ba na ca X bb nb cb Y Z bp np cp) 41)).alloc (.cells (dvc (some ⟨hb, ho, none⟩) n cρ (some ⟨rb, ro, none⟩) n cR (some ⟨sb, so, none⟩) n cS (some ⟨tb, tof, none⟩) n cT bD nD cD) 31)) = W at *
 have HG := hid HG0
 have HTk := hid HTk0
 have HDr := hid HD0
 clear HG0 HTk0 HD0
 obtain ⟨gb, hgb⟩ : ∃ gb, gb = w.heap.size := ⟨_, rfl⟩
 rw [<- hgb] at HG HTk HDr
 rw [<- hgb]
 clear hgb
 have HGc : Hid (∀ wx, Old W wx -> G5 wx (gb) P Q G H (.slice a m cap)) := fun wx ho => g5 (HG.out _ ho)
 have HTkc : Hid (∀ wx, Old W wx -> wx.cell? ⟨gb + 1, 0, none⟩ = some (.slice ba na ca) /\ wx.cell? ⟨gb + 1, 1, none⟩ = some (.int .u64 X) /\ wx.cell? ⟨gb + 1, 2, none⟩ = some (.slice bb nb cb) /\ wx.cell? ⟨gb + 1, 3, none⟩ = some (.int .u64 Y) /\ wx.cell? ⟨gb + 1, 4, none⟩ = some (.int .u64 Z) /\ wx.cell? ⟨gb + 1, 5, none⟩ = some (.slice bp np cp)) := fun wx ho => ⟨Y0 (HTk.out _ ho), Y1 (HTk.out _ ho), Y2 (HTk.out _ ho), Y3 (HTk.out _ ho), Y4 (HTk.out _ ho), Y5 (HTk.out _ ho)⟩
 have HDc : Hid (∀ wx, Old W wx -> wx.cell? ⟨gb + 1 + 1, 0, none⟩ = some (.slice (some ⟨hb, ho, none⟩) n cρ) /\ wx.cell? ⟨gb + 1 + 1, 1, none⟩ = some (.slice (some ⟨rb, ro, none⟩) n cR) /\ wx.cell? ⟨gb + 1 + 1, 2, none⟩ = some (.slice (some ⟨sb, so, none⟩) n cS) /\ wx.cell? ⟨gb + 1 + 1, 3, none⟩ = some (.slice (some ⟨tb, tof, none⟩) n cT)) := fun wx ho => ⟨Y0 (HDr.out _ ho), Y1 (HDr.out _ ho), Y2 (HDr.out _ ho), Y3 (HDr.out _ ho)⟩
 have HOc := hid fun wx i (hi : i < n) (ho : Old W wx) => HO0.out wx i hi (HW0.out.trans ho)
 have HRc := hid fun wx i (hi : i < n) (ho : Old W wx) => HR0.out wx i hi (HW0.out.trans ho)
 have HSc := hid fun wx i (hi : i < n) (ho : Old W wx) => HS0.out wx i hi (HW0.out.trans ho)
 have HTc := hid fun wx i (hi : i < n) (ho : Old W wx) => HT0.out wx i hi (HW0.out.trans ho)
 have HHc := hid fun wx j k (hj : j < n) (hk : k < 3) (hx : Old W wx) => HH0.out wx j k hj hk (HW0.out.trans hx)
 clear HO0 HR0 HS0 HT0 HH0
 go_upto_region 4 with (go_at_call 56; refine (HOr.out _ HW0.out).mono ?_; rintro e w1 ⟨rfl, o1⟩; obtain ⟨d0, d1, d2, d3⟩ := HDc.out _ o1)
 have HO1 := hid o1
 clear o1 d0 d1 d2 d3 HOr
 go_upto_region 5 with fail
 clear k1 k2 hmk
 have HF0 : Hid (Full (w1.alloc (.cells (madeCells #[Value.int .u64 0] N) 22)) w1.heap.size N (eI E Rr n 0)) := full_new w1 N _ fun k _ => eI_zero HRz.out
 have HO2 : Hid (Old W (w1.alloc (.cells (madeCells #[Value.int .u64 0] N) 22))) := HO1.out.alloc _
 have Hlb := hid HO1.out.size
 generalize w1.alloc (.cells (madeCells #[Value.int .u64 0] N) 22) = w2 at *
 generalize w1.heap.size = lb at *
 clear HO1
 go_upto_region 7 with fail
 go_loopw [11, 12] (fun v iv wx => ∃ i : Nat, iv = .int .i64 (i : Int) /\ i <= n /\ v = .int .u64 (vP i) /\ Hid (Full wx lb N (eI E Rr n i)) /\ Hid (Old W wx)) (fun _ iv _ => n - (intOf iv).toNat)
 case atStart => exact ⟨0, rfl, Nat.zero_le _, by rw [HVz.out], HF0, HO2⟩
 case round =>
  obtain ⟨i, rfl, hi, rfl, HN, HO⟩ := hrel
  by_cases hlt : i < n
  ·have hlt2 : i < n := hlt
   obtain ⟨x0, hx0⟩ : ∃ x0, x0 = O i := ⟨_, rfl⟩
   have HX0 : Hid (0 <= x0 /\ x0 < 1000) := by unfold Hid; rw [hx0]; exact HBd.out i hlt2
   have HXe := hid hx0.symm
   clear hx0
   have HVi : Hid (Value.int .i64 (IntKind.i64.wrap (O i + 1)) = .int .i64 (O i + 1)) := by have h := HX0.out; unfold Hid; rw [HXe.out, wrapi _ (by omega)]
   have HVu2 : Hid (Value.int .u64 (IntKind.u64.wrap (O i + 1)) = .int .u64 (O i + 1)) := by have h := HX0.out; unfold Hid; rw [HXe.out, wrapu _ (by omega)]
   have HOp : Hid (0 <= O i + 1) := by have h := HX0.out; unfold Hid; rw [HXe.out]; omega
   clear HXe HX0
   go_upto_region 9 with fail
   have HGx := hid fun wx (hx : Old wr wx) => HG.out _ (HO.out.trans hx)
   have HTx := hid fun wx (hx : Old wr wx) => HTk.out _ (HO.out.trans hx)
   have HDx := hid fun wx (hx : Old wr wx) => HDr.out _ (HO.out.trans hx)
   have HOi := hid fun wx (hx : Old wr wx) => HOc.out wx i hlt2 (HO.out.trans hx)
   have HRi := hid fun wx (hx : Old wr wx) => HRc.out wx i hlt2 (HO.out.trans hx)
   have HSi := hid fun wx (hx : Old wr wx) => HSc.out wx i hlt2 (HO.out.trans hx)
   have HTi := hid fun wx (hx : Old wr wx) => HTc.out wx i hlt2 (HO.out.trans hx)
   refine zae 10 [.k (gv P Q G H a m cap), .k (.pointer (some ⟨gb + 1, 1, none⟩)), .k (.int .u64 X), .k (.slice (some ⟨bo, oo, none⟩) n co), .k (.int .i64 (i : Int)), .k (.pointer (some ⟨bo, oo + i, none⟩)), .k (.int .i64 (O i)), .k (.int .i64 (O i + 1)), .k (.int .u64 (bE i)), .k (.int .u64 (bE i))] (Old wr) (by kernel_rfl) (by kernel_rfl) rfl ((Old.refl _).drew) ?st ?_
   case st =>
    refine .c (stsz U25 HGx.out) <| .c stpz <| .c (stfz 1 U22 HTx.out) <| .c stpz <| .c stpz <| .c (stiz (n := n) (c := co) hlt2 U27) <| .c (stlz U3 HOi.out) <| .c (stvz HVi.out) <| .c (stKz old_R func62 (fun wx _ => HPw.out wx i hlt2)) <| .c stpz .n
   intro t wx hR hk
   simp only [fill, Ent.val, Ls0, Ls1, Ld1, Ld0, Ldn]
   go_upto_region 10 with fail
   have HN' := hid (HN.out.old hR)
   have HO' := hid (HO.out.trans hR)
   clear HN HO hR hk HGx HTx HDx HOi HRi HSi HTi
   have HN := HN'
   have HO := HO'
   clear HN' HO'
   have HOw := hid (HW0.out.trans HO.out)
   obtain ⟨g0, g1, g2, g3, g4⟩ := HGc.out _ HO.out
   obtain ⟨t0, t1, t2, t3, t4, t5⟩ := HTkc.out _ HO.out
   go_upto_region 11 with (go_at_call 69; refine (HDd.out _ i hlt2 HOw.out).mono ?_; rintro e w3 ⟨rfl, o3⟩)
   have HN' := hid (HN.out.old o3)
   have HO' := hid (HO.out.trans o3)
   clear HN HO HOw o3 g0 g1 g2 g3 g4 t0 t1 t2 t3 t4 t5
   have HN := HN'
   have HO := HO'
   clear HN' HO'
   have HGx := hid fun wx (hx : Old w3 wx) => HG.out _ (HO.out.trans hx)
   have HTx := hid fun wx (hx : Old w3 wx) => HTk.out _ (HO.out.trans hx)
   have HDx := hid fun wx (hx : Old w3 wx) => HDr.out _ (HO.out.trans hx)
   have HOi := hid fun wx (hx : Old w3 wx) => HOc.out wx i hlt2 (HO.out.trans hx)
   have HRi := hid fun wx (hx : Old w3 wx) => HRc.out wx i hlt2 (HO.out.trans hx)
   have HSi := hid fun wx (hx : Old w3 wx) => HSc.out wx i hlt2 (HO.out.trans hx)
   have HTi := hid fun wx (hx : Old w3 wx) => HTc.out wx i hlt2 (HO.out.trans hx)
   have HEr : Hid (U64 (R i) /\ U64 (S i) /\ U64 (T i)) := ⟨HRru.out i hlt2, HSu.out i hlt2, HTu.out i hlt2⟩
   have HCu : Hid (∀ wx, Calls prog 77 #[.int .u64 (mulI Y (R i) Q), .int .u64 (S i), .int .u64 Q] wx (Ret wx (.int .u64 (uE i)))) := fun wx => by rw [HuE.out]; exact zdf _ _ Q (zaI _ _ _) HEr.out.2.1 wx
   refine zae 19 [.k (.pointer (some ⟨gb + 1, 3, none⟩)), .k (.int .u64 Y), .k (.pointer (some ⟨gb + 1 + 1, 1, none⟩)), .k (.slice (some ⟨rb, ro, none⟩) n cR), .k (.int .i64 (i : Int)), .k (.pointer (some ⟨rb, ro + i, none⟩)), .k (.int .u64 (R i)), .k (.pointer (some ⟨gb, 1, none⟩)), .k (.int .u64 Q), .k (.int .u64 (mulI Y (R i) Q)), .k (.pointer (some ⟨gb + 1 + 1, 2, none⟩)), .k (.slice (some ⟨sb, so, none⟩) n cS), .k (.int .i64 (i : Int)), .k (.pointer (some ⟨sb, so + i, none⟩)), .k (.int .u64 (S i)), .k (.pointer (some ⟨gb, 1, none⟩)), .k (.int .u64 Q), .k (.int .u64 (uE i)), .k (.int .u64 (uE i))] (Old w3) (by kernel_rfl) (by kernel_rfl) rfl ((Old.refl _).drew) ?st ?_
   case st =>
    refine .c stpz <| .c (stfz 3 U22 HTx.out) <| .c stpz <| .c (stfz 1 U29 HDx.out) <| .c stpz <| .c (stiz (n := n) (c := cR) hlt2 U29) <| .c (stlz U22 HRi.out) <| .c stpz <| .c (stfz 1 U22 HGx.out) <| .c (stKz old_R func70 (fun wx _ => zaO _ _ Q HYu.out HEr.out.1 wx)) <| .c stpz <| .c (stfz 2 U29 HDx.out) <| .c stpz <| .c (stiz (n := n) (c := cS) hlt2 U29) <| .c (stlz U22 HSi.out) <| .c stpz <| .c (stfz 1 U22 HGx.out) <| .c (stKz old_R func77 (fun wx _ => HCu.out wx)) <| .c stpz .n
   intro t w4 hR hk
   simp only [fill, Ent.val, Ls0, Ls1, Ld1, Ld0, Ldn]
   go_upto_region 12 with fail
   have HN' := hid (HN.out.old hR)
   have HO' := hid (HO.out.trans hR)
   clear HN HO hR hk HGx HTx HDx HOi HRi HSi HTi HCu
   have HN := HN'
   have HO := HO'
   clear HN' HO'
   have HGx := hid fun wx (hx : Old w4 wx) => HG.out _ (HO.out.trans hx)
   have HTx := hid fun wx (hx : Old w4 wx) => HTk.out _ (HO.out.trans hx)
   have HDx := hid fun wx (hx : Old w4 wx) => HDr.out _ (HO.out.trans hx)
   have HOi := hid fun wx (hx : Old w4 wx) => HOc.out wx i hlt2 (HO.out.trans hx)
   have HRi := hid fun wx (hx : Old w4 wx) => HRc.out wx i hlt2 (HO.out.trans hx)
   have HSi := hid fun wx (hx : Old w4 wx) => HSc.out wx i hlt2 (HO.out.trans hx)
   have HTi := hid fun wx (hx : Old w4 wx) => HTc.out wx i hlt2 (HO.out.trans hx)
   have hi8 : i < N := by have := HNN.out; omega
   refine zae 12 [.k (.slice (some ⟨lb, 0, none⟩) N N), .k (.int .i64 (i : Int)), .k (.slice (some ⟨bo, oo, none⟩) n co), .k (.int .i64 (i : Int)), .k (.pointer (some ⟨bo, oo + i, none⟩)), .k (.int .i64 (O i)), .k (.int .i64 (O i + 1)), .k (.int .u64 (O i + 1)), .k (.pointer (some ⟨gb, 1, none⟩)), .k (.int .u64 Q), .k (.int .u64 ((O i + 1) % Q)), .k (.pointer (some ⟨lb, i, none⟩))] (Old w4) (by kernel_rfl) (by kernel_rfl) rfl ((Old.refl _).drew) ?st ?_
   case st =>
    refine .c stpz <| .c stpz <| .c stpz <| .c stpz <| .c (stiz (n := n) (c := co) hlt2 U27) <| .c (stlz U3 HOi.out) <| .c (stvz HVi.out) <| .c (stvz HVu2.out) <| .c stpz <| .c (stfz 1 U22 HGx.out) <| .c (strz HOp.out HQ.out) <| .c (sti0z (n := N) (c := N) hi8 U29) .n
   intro t w5 hR hk
   simp only [fill, Ent.val, Ls0, Ls1, Ld1, Ld0, Ldn]
   have HN' := hid (HN.out.old hR)
   have HO' := hid (HO.out.trans hR)
   clear HN HO hR hk HGx HTx HDx HOi HRi HSi HTi
   have HN := HN'
   have HO := HO'
   clear HN' HO'
   have q1 := HN.out.cell i hi8
   have f1 := HN.out.free i
   have HN' := hid (HN.out.set i ((O i + 1) % Q))
   have HO' : Hid (Old W (w5.setCell ⟨lb, i, none⟩ (.int .u64 ((O i + 1) % Q)))) := HO.out.setCell (p := ⟨lb, i, none⟩) Hlb.out _
   clear HN HO
   go_upto_region 13 with fail
   clear q1 f1
   have HN := hid HN'
   have HO := hid HO'
   clear HN' HO'
   generalize w5.setCell ⟨lb, i, none⟩ (.int .u64 ((O i + 1) % Q)) = w6 at *
   have HGx := hid fun wx (hx : Old w6 wx) => HG.out _ (HO.out.trans hx)
   have HTx := hid fun wx (hx : Old w6 wx) => HTk.out _ (HO.out.trans hx)
   have HDx := hid fun wx (hx : Old w6 wx) => HDr.out _ (HO.out.trans hx)
   have HOi := hid fun wx (hx : Old w6 wx) => HOc.out wx i hlt2 (HO.out.trans hx)
   have HRi := hid fun wx (hx : Old w6 wx) => HRc.out wx i hlt2 (HO.out.trans hx)
   have HSi := hid fun wx (hx : Old w6 wx) => HSc.out wx i hlt2 (HO.out.trans hx)
   have HTi := hid fun wx (hx : Old w6 wx) => HTc.out wx i hlt2 (HO.out.trans hx)
   obtain ⟨p1, hp1⟩ : ∃ p1, p1 = n + i := ⟨_, rfl⟩
   have hp8 : p1 < N := by have := HNN.out; omega
   have HP : Hid (Value.int .i64 (IntKind.i64.wrap ((n : Int) + (i : Int))) = .int .i64 (p1 : Int)) := vi8 _ p1 (by omega) (by omega)
   have Hp1 := hid hp1
   clear hp1
   refine zae 13 [.k (.slice (some ⟨lb, 0, none⟩) N N), .k (.int .i64 (n : Int)), .k (.int .i64 (i : Int)), .k (.int .i64 (p1 : Int)), .k (.pointer (some ⟨gb + 1 + 1, 1, none⟩)), .k (.slice (some ⟨rb, ro, none⟩) n cR), .k (.int .i64 (i : Int)), .k (.pointer (some ⟨rb, ro + i, none⟩)), .k (.int .u64 (R i)), .k (.pointer (some ⟨gb, 1, none⟩)), .k (.int .u64 Q), .k (.int .u64 (R i % Q)), .k (.pointer (some ⟨lb, p1, none⟩))] (Old w6) (by kernel_rfl) (by kernel_rfl) rfl ((Old.refl _).drew) ?st ?_
   case st =>
    refine .c stpz <| .c stpz <| .c stpz <| .c (stvz HP.out) <| .c stpz <| .c (stfz 1 U29 HDx.out) <| .c stpz <| .c (stiz (n := n) (c := cR) hlt2 U29) <| .c (stlz U22 HRi.out) <| .c stpz <| .c (stfz 1 U22 HGx.out) <| .c (strz HEr.out.1.1 HQ.out) <| .c (sti0z (n := N) (c := N) hp8 U29) .n
   intro t w7 hR hk
   simp only [fill, Ent.val, Ls0, Ls1, Ld1, Ld0, Ldn]
   have HN' := hid (HN.out.old hR)
   have HO' : Hid (Old W w7) := HO.out.trans hR
   clear HN HO hR hk HGx HTx HDx HOi HRi HSi HTi
   have HN := HN'
   have HO := HO'
   clear HN' HO'
   have q1 := HN.out.cell p1 hp8
   have f1 := HN.out.free p1
   have HN' : Hid (Full (w7.setCell ⟨lb, p1, none⟩ (.int .u64 (R i % Q))) lb N (sett8 (sett8 (eI E Rr n i) i ((O i + 1) % Q)) p1 (R i % Q))) := HN.out.set p1 (R i % Q)
   have HO' : Hid (Old W (w7.setCell ⟨lb, p1, none⟩ (.int .u64 (R i % Q)))) := HO.out.setCell (p := ⟨lb, p1, none⟩) Hlb.out _
   clear HN HO HP
   go_upto_region 14 with fail
   clear q1 f1
   have HN : Hid (Full (w7.setCell ⟨lb, p1, none⟩ (.int .u64 (R i % Q))) lb N (sett8 (sett8 (eI E Rr n i) i ((O i + 1) % Q)) p1 (R i % Q))) := HN'
   have HO : Hid (Old W (w7.setCell ⟨lb, p1, none⟩ (.int .u64 (R i % Q)))) := HO'
   clear HN' HO'
   generalize w7.setCell ⟨lb, p1, none⟩ (.int .u64 (R i % Q)) = w8 at *
   obtain ⟨p2, hp2⟩ : ∃ p2, p2 = 2 * n + i := ⟨_, rfl⟩
   clear hp8
   have hp8 : p2 < N := by have := HNN.out; omega
   have e1 : IntKind.i64.wrap (2 * (n : Int)) = 2 * (n : Int) := by rw [IntKind.wrap_i64]; omega
   have e2 : IntKind.i64.wrap (2 * (n : Int) + (i : Int)) = (p2 : Int) := wi8 _ p2 (by omega) (by omega)
   have Hp2 : Hid (p2 = 2 * n + i) := hp2
   clear hp2
   have q1 := HN.out.cell p2 hp8
   have f1 := HN.out.free p2
   have HN' : Hid (Full (w8.setCell ⟨lb, p2, none⟩ (.int .u64 (bE i))) lb N (sett8 (sett8 (sett8 (eI E Rr n i) i ((O i + 1) % Q)) p1 (R i % Q)) p2 (bE i))) := HN.out.set p2 (bE i)
   have HO' : Hid (Old W (w8.setCell ⟨lb, p2, none⟩ (.int .u64 (bE i)))) := HO.out.setCell (p := ⟨lb, p2, none⟩) Hlb.out _
   clear HN HO
   go_upto_region 15 with fail
   clear q1 f1 e1 e2
   have HN : Hid (Full (w8.setCell ⟨lb, p2, none⟩ (.int .u64 (bE i))) lb N (sett8 (sett8 (sett8 (eI E Rr n i) i ((O i + 1) % Q)) p1 (R i % Q)) p2 (bE i))) := HN'
   have HO : Hid (Old W (w8.setCell ⟨lb, p2, none⟩ (.int .u64 (bE i)))) := HO'
   clear HN' HO'
   generalize w8.setCell ⟨lb, p2, none⟩ (.int .u64 (bE i)) = w9 at *
   have HGx : Hid (∀ wx, Old w9 wx -> wx.heap[gb]? = some (.cells (gc P Q G H a m cap) 25 (0, 0))) := fun wx hx => HG.out _ (HO.out.trans hx)
   have HTx : Hid (∀ wx, Old w9 wx -> wx.heap[gb + 1]? = some (.cells (tkc ba na ca X bb nb cb Y Z bp np cp) 41 (0, 0))) := fun wx hx => HTk.out _ (HO.out.trans hx)
   have HDx : Hid (∀ wx, Old w9 wx -> wx.heap[gb + 1 + 1]? = some (.cells (dvc (some ⟨hb, ho, none⟩) n cρ (some ⟨rb, ro, none⟩) n cR (some ⟨sb, so, none⟩) n cS (some ⟨tb, tof, none⟩) n cT bD nD cD) 31 (0, 0))) := fun wx hx => HDr.out _ (HO.out.trans hx)
   have HOi : Hid (∀ wx, Old w9 wx -> wx.cell? ⟨bo, oo + i, none⟩ = some (.int .i64 (O i))) := fun wx hx => HOc.out wx i hlt2 (HO.out.trans hx)
   have HRi : Hid (∀ wx, Old w9 wx -> wx.cell? ⟨rb, ro + i, none⟩ = some (.int .u64 (R i))) := fun wx hx => HRc.out wx i hlt2 (HO.out.trans hx)
   have HSi : Hid (∀ wx, Old w9 wx -> wx.cell? ⟨sb, so + i, none⟩ = some (.int .u64 (S i))) := fun wx hx => HSc.out wx i hlt2 (HO.out.trans hx)
   have HTi : Hid (∀ wx, Old w9 wx -> wx.cell? ⟨tb, tof + i, none⟩ = some (.int .u64 (T i))) := fun wx hx => HTc.out wx i hlt2 (HO.out.trans hx)
   obtain ⟨m3, hm3⟩ : ∃ m3, m3 = 3 * n := ⟨_, rfl⟩
   obtain ⟨p3, hp3⟩ : ∃ p3, p3 = 3 * n + i := ⟨_, rfl⟩
   clear hp8
   have hp8 : p3 < N := by have := HNN.out; omega
   have HM : Hid (Value.int .i64 (IntKind.i64.wrap (3 * (n : Int))) = .int .i64 (m3 : Int)) := vi8 _ m3 (by omega) (by omega)
   have HP : Hid (Value.int .i64 (IntKind.i64.wrap ((m3 : Int) + (i : Int))) = .int .i64 (p3 : Int)) := vi8 _ p3 (by omega) (by omega)
   clear hm3
   have Hp3 : Hid (p3 = 3 * n + i) := hp3
   clear hp3
   refine zae 14 [.k (.slice (some ⟨lb, 0, none⟩) N N), .k (.int .i64 (n : Int)), .k (.int .i64 (m3 : Int)), .k (.int .i64 (i : Int)), .k (.int .i64 (p3 : Int)), .k (.pointer (some ⟨gb + 1 + 1, 2, none⟩)), .k (.slice (some ⟨sb, so, none⟩) n cS), .k (.int .i64 (i : Int)), .k (.pointer (some ⟨sb, so + i, none⟩)), .k (.int .u64 (S i)), .k (.pointer (some ⟨gb, 1, none⟩)), .k (.int .u64 Q), .k (.int .u64 (S i % Q)), .k (.pointer (some ⟨lb, p3, none⟩))] (Old w9) (by kernel_rfl) (by kernel_rfl) rfl ((Old.refl _).drew) ?st ?_
   case st =>
    refine .c stpz <| .c stpz <| .c (stvz HM.out) <| .c stpz <| .c (stvz HP.out) <| .c stpz <| .c (stfz 2 U29 HDx.out) <| .c stpz <| .c (stiz (n := n) (c := cS) hlt2 U29) <| .c (stlz U22 HSi.out) <| .c stpz <| .c (stfz 1 U22 HGx.out) <| .c (strz HEr.out.2.1.1 HQ.out) <| .c (sti0z (n := N) (c := N) hp8 U29) .n
   intro t wa hR hk
   simp only [fill, Ent.val, Ls0, Ls1, Ld1, Ld0, Ldn]
   have HN' : Hid (Full wa lb N _) := HN.out.old hR
   have HO' : Hid (Old W wa) := HO.out.trans hR
   clear HN HO hR hk HGx HTx HDx HOi HRi HSi HTi
   have HN := HN'
   have HO := HO'
   clear HN' HO'
   have q1 := HN.out.cell p3 hp8
   have f1 := HN.out.free p3
   have HN' : Hid (Full (wa.setCell ⟨lb, p3, none⟩ (.int .u64 (S i % Q))) lb N (sett8 (sett8 (sett8 (sett8 (eI E Rr n i) i ((O i + 1) % Q)) p1 (R i % Q)) p2 (bE i)) p3 (S i % Q))) := HN.out.set p3 (S i % Q)
   have HO' : Hid (Old W (wa.setCell ⟨lb, p3, none⟩ (.int .u64 (S i % Q)))) := HO.out.setCell (p := ⟨lb, p3, none⟩) Hlb.out _
   clear HN HO HP HM
   go_upto_region 16 with fail
   clear q1 f1
   have HN : Hid (Full (wa.setCell ⟨lb, p3, none⟩ (.int .u64 (S i % Q))) lb N (sett8 (sett8 (sett8 (sett8 (eI E Rr n i) i ((O i + 1) % Q)) p1 (R i % Q)) p2 (bE i)) p3 (S i % Q))) := HN'
   have HO : Hid (Old W (wa.setCell ⟨lb, p3, none⟩ (.int .u64 (S i % Q)))) := HO'
   clear HN' HO'
   generalize wa.setCell ⟨lb, p3, none⟩ (.int .u64 (S i % Q)) = wb at *
   obtain ⟨p4, hp4⟩ : ∃ p4, p4 = 4 * n + i := ⟨_, rfl⟩
   clear hp8
   have hp8 : p4 < N := by have := HNN.out; omega
   have e1 : IntKind.i64.wrap (4 * (n : Int)) = 4 * (n : Int) := by rw [IntKind.wrap_i64]; omega
   have e2 : IntKind.i64.wrap (4 * (n : Int) + (i : Int)) = (p4 : Int) := wi8 _ p4 (by omega) (by omega)
   have Hp4 : Hid (p4 = 4 * n + i) := hp4
   clear hp4
   have q1 := HN.out.cell p4 hp8
   have f1 := HN.out.free p4
   have HN' : Hid (Full (wb.setCell ⟨lb, p4, none⟩ (.int .u64 (dE i))) lb N (sett8 (sett8 (sett8 (sett8 (sett8 (eI E Rr n i) i ((O i + 1) % Q)) p1 (R i % Q)) p2 (bE i)) p3 (S i % Q)) p4 (dE i))) := HN.out.set p4 (dE i)
   have HO' : Hid (Old W (wb.setCell ⟨lb, p4, none⟩ (.int .u64 (dE i)))) := HO.out.setCell (p := ⟨lb, p4, none⟩) Hlb.out _
   clear HN HO
   go_upto_region 17 with fail
   clear q1 f1 e1 e2
   have HN : Hid (Full (wb.setCell ⟨lb, p4, none⟩ (.int .u64 (dE i))) lb N (sett8 (sett8 (sett8 (sett8 (sett8 (eI E Rr n i) i ((O i + 1) % Q)) p1 (R i % Q)) p2 (bE i)) p3 (S i % Q)) p4 (dE i))) := HN'
   have HO : Hid (Old W (wb.setCell ⟨lb, p4, none⟩ (.int .u64 (dE i)))) := HO'
   clear HN' HO'
   generalize wb.setCell ⟨lb, p4, none⟩ (.int .u64 (dE i)) = wc at *
   obtain ⟨p5, hp5⟩ : ∃ p5, p5 = 5 * n + i := ⟨_, rfl⟩
   clear hp8
   have hp8 : p5 < N := by have := HNN.out; omega
   have e1 : IntKind.i64.wrap (5 * (n : Int)) = 5 * (n : Int) := by rw [IntKind.wrap_i64]; omega
   have e2 : IntKind.i64.wrap (5 * (n : Int) + (i : Int)) = (p5 : Int) := wi8 _ p5 (by omega) (by omega)
   have Hp5 : Hid (p5 = 5 * n + i) := hp5
   clear hp5
   have q1 := HN.out.cell p5 hp8
   have f1 := HN.out.free p5
   have HN' : Hid (Full (wc.setCell ⟨lb, p5, none⟩ (.int .u64 (uE i))) lb N (sett8 (sett8 (sett8 (sett8 (sett8 (sett8 (eI E Rr n i) i ((O i + 1) % Q)) p1 (R i % Q)) p2 (bE i)) p3 (S i % Q)) p4 (dE i)) p5 (uE i))) := HN.out.set p5 (uE i)
   have HO' : Hid (Old W (wc.setCell ⟨lb, p5, none⟩ (.int .u64 (uE i)))) := HO.out.setCell (p := ⟨lb, p5, none⟩) Hlb.out _
   clear HN HO
   go_upto_region 18 with fail
   clear q1 f1 e1 e2
   have HN : Hid (Full (wc.setCell ⟨lb, p5, none⟩ (.int .u64 (uE i))) lb N (sett8 (sett8 (sett8 (sett8 (sett8 (sett8 (eI E Rr n i) i ((O i + 1) % Q)) p1 (R i % Q)) p2 (bE i)) p3 (S i % Q)) p4 (dE i)) p5 (uE i))) := HN'
   have HO : Hid (Old W (wc.setCell ⟨lb, p5, none⟩ (.int .u64 (uE i)))) := HO'
   clear HN' HO'
   generalize wc.setCell ⟨lb, p5, none⟩ (.int .u64 (uE i)) = wd at *
   have HM6 : Hid (Full wd lb N (midI E Rr n i)) := by
    have h := HN.out
    obtain ⟨a0, a1, a2, a3, a4, a5, _⟩ := HEa.out i hlt2
    unfold Hid midI
    rw [a0, a1, a2, a3, a4, a5, <- Hp1.out, <- Hp2.out, <- Hp3.out, <- Hp4.out, <- Hp5.out]
    exact h
   clear HN Hp1 Hp2 Hp3 Hp4 Hp5 hp8 hi8
   have HN := HM6
   clear HM6
   have HH3 : Hid (∀ wx c, c < 3 -> Old W wx -> wx.cell? ⟨hb, ho + i * 3 + c, none⟩ = some (.int .u64 (Rh i c))) := fun wx c hc hx => HHc.out wx i c hlt2 hc hx
   by_cases hi0 : i = 0
   ·have HNh : Hid (Full wd lb N (eH E Rr n i 0)) := HN.out.congr fun k hk => by rw [hi0]; exact midI_zero h1
    have HVv : Hid (uE i = vP (i + 1)) := by unfold Hid; rw [hi0]; exact HV0.out.symm
    have hi0' : (i : Int) = 0 := by omega
    clear HN hi0
    go_upto_region 20 with fail
    clear hi0'
    go_upto_region 23 with fail
    go_loopw [16] (fun kv wx => ∃ c : Nat, kv = .int .i64 (c : Int) /\ c <= 3 /\ Hid (Full wx lb N (eH E Rr n i c)) /\ Hid (Old W wx)) (fun kv _ => 3 - (intOf kv).toNat)
    case atStart => exact ⟨0, rfl, Nat.zero_le _, HNh, HO⟩
    case round =>
     obtain ⟨c, rfl, hc, HN, HO⟩ := hrel
     by_cases hcl : c < 3
     ·have hcl2 : c < 3 := hcl
      have hcl3 : (c : Int) < 3 := by omega
      obtain ⟨m7, hm7⟩ : ∃ m7, m7 = 7 * n := ⟨_, rfl⟩
      obtain ⟨p7, hp7⟩ : ∃ p7, p7 = 7 * n + c := ⟨_, rfl⟩
      have hp8 : p7 < N := by have := HNN.out; omega
      have HM : Hid (Value.int .i64 (IntKind.i64.wrap (7 * (n : Int))) = .int .i64 (m7 : Int)) := vi8 _ m7 (by omega) (by omega)
      have HP : Hid (Value.int .i64 (IntKind.i64.wrap ((m7 : Int) + (c : Int))) = .int .i64 (p7 : Int)) := vi8 _ p7 (by omega) (by omega)
      have Hp7 : Hid (p7 = 7 * n + c) := hp7
      have HLc : Hid (∀ wx, Old wr wx -> wx.cell? ⟨lb, p7, none⟩ = some (.int .u64 (Rr c i))) := fun wx hx => by
       have h := (HN.out.old hx).cell p7 hp8
       rw [Hp7.out, eH_at, <- Hp7.out] at h
       exact h
      clear hm7 hp7
      go_upto_region 25 with fail
      have HGx := hid fun wx (hx : Old wr wx) => HG.out _ (HO.out.trans hx)
      have HDx := hid fun wx (hx : Old wr wx) => HDr.out _ (HO.out.trans hx)
      have HHx : Hid (∀ wx, Old wr wx -> wx.cell? ⟨hb, ho + i * 3 + c, none⟩ = some (.int .u64 (Rh i c))) := fun wx hx => HH3.out wx c hcl2 (HO.out.trans hx)
      have HCs : Hid (∀ wx, Calls prog 78 #[.int .u64 (Rr c i), .int .u64 (mulI (bE i) (Rh i c) Q), .int .u64 Q] wx (Ret wx (.int .u64 (Rr c (i + 1))))) := fun wx => by rw [HRn.out]; exact zf0 _ _ Q (HRu.out _ _) (zaI _ _ _) wx
      refine zae 27 [.k (.slice (some ⟨lb, 0, none⟩) N N), .k (.int .i64 (n : Int)), .k (.int .i64 (m7 : Int)), .k (.int .i64 (c : Int)), .k (.int .i64 (p7 : Int)), .k (.slice (some ⟨lb, 0, none⟩) N N), .k (.int .i64 (n : Int)), .k (.int .i64 (m7 : Int)), .k (.int .i64 (c : Int)), .k (.int .i64 (p7 : Int)), .k (.pointer (some ⟨lb, p7, none⟩)), .k (.int .u64 (Rr c i)), .k (.int .u64 (bE i)), .k (.pointer (some ⟨gb + 1 + 1, 0, none⟩)), .k (.slice (some ⟨hb, ho, none⟩) n cρ), .k (.int .i64 (i : Int)), .k (.int .i64 (c : Int)), .k (.pointer (some ⟨hb, ho + i * 3, none⟩)), .k (.pointer (some ⟨hb, ho + i * 3 + c, none⟩)), .k (.int .u64 (Rh i c)), .k (.pointer (some ⟨gb, 1, none⟩)), .k (.int .u64 Q), .k (.int .u64 (mulI (bE i) (Rh i c) Q)), .k (.pointer (some ⟨gb, 1, none⟩)), .k (.int .u64 Q), .k (.int .u64 (Rr c (i + 1))), .k (.pointer (some ⟨lb, p7, none⟩))] (Old wr) (by kernel_rfl) (by kernel_rfl) rfl ((Old.refl _).drew) ?st ?_
      case st =>
       refine .c stpz <| .c stpz <| .c (stvz HM.out) <| .c stpz <| .c (stvz HP.out) <| .c stpz <| .c stpz <| .c (stvz HM.out) <| .c stpz <| .c (stvz HP.out) <| .c (sti0z (n := N) (c := N) hp8 U29) <| .c (stlz U22 HLc.out) <| .c stpz <| .c stpz <| .c (stfz 0 U28 HDx.out) <| .c stpz <| .c stpz <| .c (stjz (n := n) (c := cρ) 3 hlt2 U28) <| .c (saiz hcl2 U63) <| .c (stlz U22 HHx.out) <| .c stpz <| .c (stfz 1 U22 HGx.out) <| .c (stKz old_R func70 (fun wx _ => zaO _ _ Q (HbU.out i) (HRhu.out i c hlt2 hcl2) wx)) <| .c stpz <| .c (stfz 1 U22 HGx.out) <| .c (stKz old_R func78 (fun wx _ => HCs.out wx)) <| .c (sti0z (n := N) (c := N) hp8 U29) .n
      intro t wy hR hk
      simp only [fill, Ent.val, Ls0, Ls1, Ld1, Ld0, Ldn]
      have HNy := HN.out.old hR
      have HOy : Hid (Old W wy) := HO.out.trans hR
      have q1 := HNy.cell p7 hp8
      have f1 := HNy.free p7
      have HN2 : Hid (Full (wy.setCell ⟨lb, p7, none⟩ (.int .u64 (Rr c (i + 1)))) lb N (eH E Rr n i (c + 1))) := (HNy.set p7 (Rr c (i + 1))).congr fun k hk => by
       have h := eH_next (E := E) (Rr := Rr) (n := n) (i := i) (k := k) (c := c)
       rw [Hp7.out]
       exact h
      have HO2 : Hid (Old W (wy.setCell ⟨lb, p7, none⟩ (.int .u64 (Rr c (i + 1))))) := HOy.out.setCell (p := ⟨lb, p7, none⟩) Hlb.out _
      clear HNy HOy hR hk HN HO HGx HDx HHx HCs HLc HM HP
      go_wp2_with fail
      go_roundw
      case rel => exact ⟨c + 1, zab c, by omega, HN2, HO2⟩
      case measure => simp [intOf]; omega
     ·have hc3 : c = 3 := by omega
      subst hc3
      have HNe : Hid (Full wr lb N (eI E Rr n (i + 1))) := HN.out.congr fun k hk => eH_done (by have := HNN.out; omega)
      clear HN
      go_wp2_with fail
      go_roundw
      case rel => exact ⟨i + 1, zab i, by omega, by rw [HVv.out], HNe, HO⟩
      case measure => simp [intOf]; omega
   ·have hi1 : 0 < i := by omega
    have hi0' : ¬ (i : Int) = 0 := by omega
    clear hi0
    go_upto_region 20 with fail
    clear hi0'
    have HGx : Hid (∀ wx, Old wd wx -> wx.heap[gb]? = some (.cells (gc P Q G H a m cap) 25 (0, 0))) := fun wx hx => HG.out _ (HO.out.trans hx)
    have HTx : Hid (∀ wx, Old wd wx -> wx.heap[gb + 1]? = some (.cells (tkc ba na ca X bb nb cb Y Z bp np cp) 41 (0, 0))) := fun wx hx => HTk.out _ (HO.out.trans hx)
    have HDx : Hid (∀ wx, Old wd wx -> wx.heap[gb + 1 + 1]? = some (.cells (dvc (some ⟨hb, ho, none⟩) n cρ (some ⟨rb, ro, none⟩) n cR (some ⟨sb, so, none⟩) n cS (some ⟨tb, tof, none⟩) n cT bD nD cD) 31 (0, 0))) := fun wx hx => HDr.out _ (HO.out.trans hx)
    have HOi : Hid (∀ wx, Old wd wx -> wx.cell? ⟨bo, oo + i, none⟩ = some (.int .i64 (O i))) := fun wx hx => HOc.out wx i hlt2 (HO.out.trans hx)
    have HRi : Hid (∀ wx, Old wd wx -> wx.cell? ⟨rb, ro + i, none⟩ = some (.int .u64 (R i))) := fun wx hx => HRc.out wx i hlt2 (HO.out.trans hx)
    have HSi : Hid (∀ wx, Old wd wx -> wx.cell? ⟨sb, so + i, none⟩ = some (.int .u64 (S i))) := fun wx hx => HSc.out wx i hlt2 (HO.out.trans hx)
    have HTi : Hid (∀ wx, Old wd wx -> wx.cell? ⟨tb, tof + i, none⟩ = some (.int .u64 (T i))) := fun wx hx => HTc.out wx i hlt2 (HO.out.trans hx)
    have HCv : Hid (∀ wx, Calls prog 77 #[.int .u64 (mulI (vP i) (dE i) Q), .int .u64 (T i), .int .u64 Q] wx (Ret wx (.int .u64 (vP (i + 1))))) := fun wx => by rw [HVn.out i hi1]; exact zdf _ _ Q (zaI _ _ _) HEr.out.2.2 wx
    refine zae 13 [.k (.int .u64 (vP i)), .k (.int .u64 (dE i)), .k (.pointer (some ⟨gb, 1, none⟩)), .k (.int .u64 Q), .k (.int .u64 (mulI (vP i) (dE i) Q)), .k (.pointer (some ⟨gb + 1 + 1, 3, none⟩)), .k (.slice (some ⟨tb, tof, none⟩) n cT), .k (.int .i64 (i : Int)), .k (.pointer (some ⟨tb, tof + i, none⟩)), .k (.int .u64 (T i)), .k (.pointer (some ⟨gb, 1, none⟩)), .k (.int .u64 Q), .k (.int .u64 (vP (i + 1)))] (Old wd) (by kernel_rfl) (by kernel_rfl) rfl ((Old.refl _).drew) ?st ?_
    case st =>
     refine .c stpz <| .c stpz <| .c stpz <| .c (stfz 1 U22 HGx.out) <| .c (stKz old_R func70 (fun wx _ => zaO _ _ Q (HVu.out i) (HdU.out i) wx)) <| .c stpz <| .c (stfz 3 U29 HDx.out) <| .c stpz <| .c (stiz (n := n) (c := cT) hlt2 U29) <| .c (stlz U22 HTi.out) <| .c stpz <| .c (stfz 1 U22 HGx.out) <| .c (stKz old_R func77 (fun wx _ => HCv.out wx)) .n
    intro t we hR hk
    simp only [fill, Ent.val, Ls0, Ls1, Ld1, Ld0, Ldn]
    go_upto_region 21 with fail
    have HN' : Hid (Full we lb N _) := HN.out.old hR
    have HO' : Hid (Old W we) := HO.out.trans hR
    clear HN HO hR hk HGx HTx HDx HOi HRi HSi HTi HCv
    have HN := HN'
    have HO := HO'
    clear HN' HO'
    have HGx : Hid (∀ wx, Old we wx -> wx.heap[gb]? = some (.cells (gc P Q G H a m cap) 25 (0, 0))) := fun wx hx => HG.out _ (HO.out.trans hx)
    have HTx : Hid (∀ wx, Old we wx -> wx.heap[gb + 1]? = some (.cells (tkc ba na ca X bb nb cb Y Z bp np cp) 41 (0, 0))) := fun wx hx => HTk.out _ (HO.out.trans hx)
    have HDx : Hid (∀ wx, Old we wx -> wx.heap[gb + 1 + 1]? = some (.cells (dvc (some ⟨hb, ho, none⟩) n cρ (some ⟨rb, ro, none⟩) n cR (some ⟨sb, so, none⟩) n cS (some ⟨tb, tof, none⟩) n cT bD nD cD) 31 (0, 0))) := fun wx hx => HDr.out _ (HO.out.trans hx)
    have HOi : Hid (∀ wx, Old we wx -> wx.cell? ⟨bo, oo + i, none⟩ = some (.int .i64 (O i))) := fun wx hx => HOc.out wx i hlt2 (HO.out.trans hx)
    have HRi : Hid (∀ wx, Old we wx -> wx.cell? ⟨rb, ro + i, none⟩ = some (.int .u64 (R i))) := fun wx hx => HRc.out wx i hlt2 (HO.out.trans hx)
    have HSi : Hid (∀ wx, Old we wx -> wx.cell? ⟨sb, so + i, none⟩ = some (.int .u64 (S i))) := fun wx hx => HSc.out wx i hlt2 (HO.out.trans hx)
    have HTi : Hid (∀ wx, Old we wx -> wx.cell? ⟨tb, tof + i, none⟩ = some (.int .u64 (T i))) := fun wx hx => HTc.out wx i hlt2 (HO.out.trans hx)
    obtain ⟨m6, hm6⟩ : ∃ m6, m6 = 6 * n := ⟨_, rfl⟩
    obtain ⟨q6, hq6⟩ : ∃ q6, q6 = 6 * n + i := ⟨_, rfl⟩
    obtain ⟨p6, hp6⟩ : ∃ p6, p6 = 6 * n + i - 1 := ⟨_, rfl⟩
    have hp8 : p6 < N := by have := HNN.out; omega
    have HM : Hid (Value.int .i64 (IntKind.i64.wrap (6 * (n : Int))) = .int .i64 (m6 : Int)) := vi8 _ m6 (by omega) (by omega)
    have HQ6 : Hid (Value.int .i64 (IntKind.i64.wrap ((m6 : Int) + (i : Int))) = .int .i64 (q6 : Int)) := vi8 _ q6 (by omega) (by omega)
    have HP : Hid (Value.int .i64 (IntKind.i64.wrap ((q6 : Int) - 1)) = .int .i64 (p6 : Int)) := vi8 _ p6 (by omega) (by omega)
    clear hm6 hq6
    have Hp6 : Hid (p6 = 6 * n + i - 1) := hp6
    clear hp6
    refine zae 15 [.k (.slice (some ⟨lb, 0, none⟩) N N), .k (.int .i64 (n : Int)), .k (.int .i64 (m6 : Int)), .k (.int .i64 (i : Int)), .k (.int .i64 (q6 : Int)), .k (.int .i64 (p6 : Int)), .k (.pointer (some ⟨gb + 1 + 1, 3, none⟩)), .k (.slice (some ⟨tb, tof, none⟩) n cT), .k (.int .i64 (i : Int)), .k (.pointer (some ⟨tb, tof + i, none⟩)), .k (.int .u64 (T i)), .k (.pointer (some ⟨gb, 1, none⟩)), .k (.int .u64 Q), .k (.int .u64 (T i % Q)), .k (.pointer (some ⟨lb, p6, none⟩))] (Old we) (by kernel_rfl) (by kernel_rfl) rfl ((Old.refl _).drew) ?st ?_
    case st =>
     refine .c stpz <| .c stpz <| .c (stvz HM.out) <| .c stpz <| .c (stvz HQ6.out) <| .c (stvz HP.out) <| .c stpz <| .c (stfz 3 U29 HDx.out) <| .c stpz <| .c (stiz (n := n) (c := cT) hlt2 U29) <| .c (stlz U22 HTi.out) <| .c stpz <| .c (stfz 1 U22 HGx.out) <| .c (strz HEr.out.2.2.1 HQ.out) <| .c (sti0z (n := N) (c := N) hp8 U29) .n
    intro t wf hR hk
    simp only [fill, Ent.val, Ls0, Ls1, Ld1, Ld0, Ldn]
    have HN' : Hid (Full wf lb N _) := HN.out.old hR
    have HO' : Hid (Old W wf) := HO.out.trans hR
    clear HN HO hR hk HGx HTx HDx HOi HRi HSi HTi
    have HN := HN'
    have HO := HO'
    clear HN' HO'
    have q1 := HN.out.cell p6 hp8
    have f1 := HN.out.free p6
    have HN' : Hid (Full (wf.setCell ⟨lb, p6, none⟩ (.int .u64 (T i % Q))) lb N (sett8 (midI E Rr n i) p6 (T i % Q))) := HN.out.set p6 (T i % Q)
    have HO' : Hid (Old W (wf.setCell ⟨lb, p6, none⟩ (.int .u64 (T i % Q)))) := HO.out.setCell (p := ⟨lb, p6, none⟩) Hlb.out _
    clear HN HO HP HQ6 HM
    go_upto_region 22 with fail
    clear q1 f1
    have HN : Hid (Full (wf.setCell ⟨lb, p6, none⟩ (.int .u64 (T i % Q))) lb N (sett8 (midI E Rr n i) p6 (T i % Q))) := HN'
    have HO : Hid (Old W (wf.setCell ⟨lb, p6, none⟩ (.int .u64 (T i % Q)))) := HO'
    clear HN' HO'
    generalize wf.setCell ⟨lb, p6, none⟩ (.int .u64 (T i % Q)) = wg at *
    have HNh : Hid (Full wg lb N (eH E Rr n i 0)) := HN.out.congr fun k hk => by
     have h := midI_pos (E := E) (Rr := Rr) (k := k) hlt2 hi1
     rw [(HEa.out i hlt2).2.2.2.2.2.2 hi1, <- Hp6.out] at h
     exact h
    clear HN Hp6 hp8
    go_upto_region 23 with fail
    go_loopw [16] (fun kv wx => ∃ c : Nat, kv = .int .i64 (c : Int) /\ c <= 3 /\ Hid (Full wx lb N (eH E Rr n i c)) /\ Hid (Old W wx)) (fun kv _ => 3 - (intOf kv).toNat)
    case atStart => exact ⟨0, rfl, Nat.zero_le _, HNh, HO⟩
    case round =>
     obtain ⟨c, rfl, hc, HN, HO⟩ := hrel
     by_cases hcl : c < 3
     ·have hcl2 : c < 3 := hcl
      have hcl3 : (c : Int) < 3 := by omega
      obtain ⟨m7, hm7⟩ : ∃ m7, m7 = 7 * n := ⟨_, rfl⟩
      obtain ⟨p7, hp7⟩ : ∃ p7, p7 = 7 * n + c := ⟨_, rfl⟩
      have hp8 : p7 < N := by have := HNN.out; omega
      have HM : Hid (Value.int .i64 (IntKind.i64.wrap (7 * (n : Int))) = .int .i64 (m7 : Int)) := vi8 _ m7 (by omega) (by omega)
      have HP : Hid (Value.int .i64 (IntKind.i64.wrap ((m7 : Int) + (c : Int))) = .int .i64 (p7 : Int)) := vi8 _ p7 (by omega) (by omega)
      have Hp7 : Hid (p7 = 7 * n + c) := hp7
      have HLc : Hid (∀ wx, Old wr wx -> wx.cell? ⟨lb, p7, none⟩ = some (.int .u64 (Rr c i))) := fun wx hx => by
       have h := (HN.out.old hx).cell p7 hp8
       rw [Hp7.out, eH_at, <- Hp7.out] at h
       exact h
      clear hm7 hp7
      go_upto_region 25 with fail
      have HGx := hid fun wx (hx : Old wr wx) => HG.out _ (HO.out.trans hx)
      have HDx := hid fun wx (hx : Old wr wx) => HDr.out _ (HO.out.trans hx)
      have HHx : Hid (∀ wx, Old wr wx -> wx.cell? ⟨hb, ho + i * 3 + c, none⟩ = some (.int .u64 (Rh i c))) := fun wx hx => HH3.out wx c hcl2 (HO.out.trans hx)
      have HCs : Hid (∀ wx, Calls prog 78 #[.int .u64 (Rr c i), .int .u64 (mulI (bE i) (Rh i c) Q), .int .u64 Q] wx (Ret wx (.int .u64 (Rr c (i + 1))))) := fun wx => by rw [HRn.out]; exact zf0 _ _ Q (HRu.out _ _) (zaI _ _ _) wx
      refine zae 27 [.k (.slice (some ⟨lb, 0, none⟩) N N), .k (.int .i64 (n : Int)), .k (.int .i64 (m7 : Int)), .k (.int .i64 (c : Int)), .k (.int .i64 (p7 : Int)), .k (.slice (some ⟨lb, 0, none⟩) N N), .k (.int .i64 (n : Int)), .k (.int .i64 (m7 : Int)), .k (.int .i64 (c : Int)), .k (.int .i64 (p7 : Int)), .k (.pointer (some ⟨lb, p7, none⟩)), .k (.int .u64 (Rr c i)), .k (.int .u64 (bE i)), .k (.pointer (some ⟨gb + 1 + 1, 0, none⟩)), .k (.slice (some ⟨hb, ho, none⟩) n cρ), .k (.int .i64 (i : Int)), .k (.int .i64 (c : Int)), .k (.pointer (some ⟨hb, ho + i * 3, none⟩)), .k (.pointer (some ⟨hb, ho + i * 3 + c, none⟩)), .k (.int .u64 (Rh i c)), .k (.pointer (some ⟨gb, 1, none⟩)), .k (.int .u64 Q), .k (.int .u64 (mulI (bE i) (Rh i c) Q)), .k (.pointer (some ⟨gb, 1, none⟩)), .k (.int .u64 Q), .k (.int .u64 (Rr c (i + 1))), .k (.pointer (some ⟨lb, p7, none⟩))] (Old wr) (by kernel_rfl) (by kernel_rfl) rfl ((Old.refl _).drew) ?st ?_
      case st =>
       refine .c stpz <| .c stpz <| .c (stvz HM.out) <| .c stpz <| .c (stvz HP.out) <| .c stpz <| .c stpz <| .c (stvz HM.out) <| .c stpz <| .c (stvz HP.out) <| .c (sti0z (n := N) (c := N) hp8 U29) <| .c (stlz U22 HLc.out) <| .c stpz <| .c stpz <| .c (stfz 0 U28 HDx.out) <| .c stpz <| .c stpz <| .c (stjz (n := n) (c := cρ) 3 hlt2 U28) <| .c (saiz hcl2 U63) <| .c (stlz U22 HHx.out) <| .c stpz <| .c (stfz 1 U22 HGx.out) <| .c (stKz old_R func70 (fun wx _ => zaO _ _ Q (HbU.out i) (HRhu.out i c hlt2 hcl2) wx)) <| .c stpz <| .c (stfz 1 U22 HGx.out) <| .c (stKz old_R func78 (fun wx _ => HCs.out wx)) <| .c (sti0z (n := N) (c := N) hp8 U29) .n
      intro t wy hR hk
      simp only [fill, Ent.val, Ls0, Ls1, Ld1, Ld0, Ldn]
      have HNy := HN.out.old hR
      have HOy : Hid (Old W wy) := HO.out.trans hR
      have q1 := HNy.cell p7 hp8
      have f1 := HNy.free p7
      have HN2 : Hid (Full (wy.setCell ⟨lb, p7, none⟩ (.int .u64 (Rr c (i + 1)))) lb N (eH E Rr n i (c + 1))) := (HNy.set p7 (Rr c (i + 1))).congr fun k hk => by
       have h := eH_next (E := E) (Rr := Rr) (n := n) (i := i) (k := k) (c := c)
       rw [Hp7.out]
       exact h
      have HO2 : Hid (Old W (wy.setCell ⟨lb, p7, none⟩ (.int .u64 (Rr c (i + 1))))) := HOy.out.setCell (p := ⟨lb, p7, none⟩) Hlb.out _
      clear HNy HOy hR hk HN HO HGx HDx HHx HCs HLc HM HP
      go_wp2_with fail
      go_roundw
      case rel => exact ⟨c + 1, zab c, by omega, HN2, HO2⟩
      case measure => simp [intOf]; omega
     ·have hc3 : c = 3 := by omega
      subst hc3
      have HNe : Hid (Full wr lb N (eI E Rr n (i + 1))) := HN.out.congr fun k hk => eH_done (by have := HNN.out; omega)
      clear HN
      go_wp2_with fail
      go_roundw
      case rel => exact ⟨i + 1, zab i, by omega, rfl, HNe, HO⟩
      case measure => simp [intOf]; omega
  ·have he : n = i := by omega
   subst he
   have hN3 : N = 7 * n + 3 := HNN.out
   obtain ⟨p, hp⟩ : ∃ p, p = 7 * n - 1 := ⟨_, rfl⟩
   have hp8 : p < N := by omega
   have e1 : IntKind.i64.wrap (7 * (n : Int)) = 7 * (n : Int) := by rw [IntKind.wrap_i64]; omega
   have e2 : IntKind.i64.wrap (7 * (n : Int) - 1) = (p : Int) := wi8 _ p (by omega) (by omega)
   have q1 := HN.out.cell p hp8
   have f1 := HN.out.free p
   have HN2 : Hid (Full (wr.setCell ⟨lb, p, none⟩ (.int .u64 (vP n))) lb N E) := (HN.out.set p (vP n)).congr fun k hk => by
    have h := eI_done (E := E) (Rr := Rr) h1 HRe3.out (k := k) (by omega)
    rw [HVe.out, hp]
    exact h
   have HO3 : Hid (Old W (wr.setCell ⟨lb, p, none⟩ (.int .u64 (vP n)))) := HO.out.setCell (p := ⟨lb, p, none⟩) Hlb.out _
   have Hl2 : Hid (w.heap.size <= lb) := Nat.le_trans HW0.out.size Hlb.out
   clear hp hN3 HN HO
   go_wp2_with fail
   go_ret
   exact ⟨HW0.out.trans HO3.out, lb, Hl2.out, rfl, HN2.out⟩
theorem own_ne8 {w : World} {base b n : Nat} {v : Value} {F : NI} {cs : Array Value} {ty : TypeId} (ht : ty ≠ 22) (h : Nums w base v n F) (hb : w.heap[b]? = some (.cells cs ty (0, 0))) : v.ownBlock ≠ some b := by
 rcases h.2 with ⟨rfl, _⟩ | ⟨g, cap, cur, rfl, _, hg, _⟩
 ·simp [Value.ownBlock]
 ·intro he
  have : g = b := by simpa [Value.ownBlock] using he
  subst this
  rw [hb] at hg
  cases hg
  exact ht rfl
theorem rpro_any (P Q G H : Int) (a : OA) (m cap : Nat) (label : List Int) (y : Int) (bi : OA) (ci : Nat) (C : NN) (bo : OA) (co : Nat) (O : NI) (bρ : OA) (cρ : Nat) (Rh : NN) (bR : OA) (cR : Nat) (R : NI) (bS : OA) (cS : Nat) (S : NI) (bT : OA) (cT : Nat) (T : NI) (bD : OA) (nD cD : Nat) (D : NI) (n : Nat) (Xc Yc Zc : Int) (A B Pp : NI) (M : NN) (E K Zf : NI) (w : World) (h1n : 0 < n) (hn : n <= 8) (h4 : Four P Q G H) (hr : Righ P Q G) (hy : U64 y) (hlb : Bts label) (hll : label.length <= 1000) (hcT : n <= cT /\ cT <= 9223372036854775807) (hcD : nD <= cD)
  (hC : BoxsIn w bi n C) (hO : IntsIn w bo n O) (hρ : RhoIn w bρ n Rh) (hR : FacsIn w bR n R) (hS : FacsIn w bS n S) (hT : FacsIn w bT n T) (hD : FacsIn w bD nD D) (hmx : mixB P Q y n C n O n = true) (hdr : drwB n n n n nD = true) (hor : ordR n O = true)
  (hM : M = mixC P Q G y C O Rh) (hXc : Xc = chX label Q (knwS P Q G H y n C n M) n A) (hYc : Yc = chYZ 121 label Q (knwS P Q G H y n C n M) n A B) (hZc : Zc = chYZ 122 label Q (knwS P Q G H y n C n M) n A B)
  (hA : A = fun i => comI P Q G H (O i + 1) (R i)) (hB : B = fun i => comI P Q G H (powI Xc (O i + 1) Q) (S i)) (hP : Pp = thiI P Q G H Xc Yc Zc A B O T)
  (hE : E = exF Q Xc Yc Zc n (fun i => (O i).toNat) R S T Rh) (hK : K = fun j => imI P Q ((bas8 n Pp G H y (fun j w => M j (2 * w)) (fun j w => M j (2 * w + 1))) j) D (sizeN P Q (4 * n + 6) (tgtT P Q G Xc Yc Zc n A B Pp (fun j w => C j (2 * w)) (fun j w => C j (2 * w + 1))) (4 * n + 6) (fun _ => 7 * n + 3) (bas8 n Pp G H y (fun j w => M j (2 * w)) (fun j w => M j (2 * w + 1))))) (hZ : Zf = fun k => ansI Q (chI label P Q G H (4 * n + 6) (tgtT P Q G Xc Yc Zc n A B Pp (fun j w => C j (2 * w)) (fun j w => C j (2 * w + 1))) (4 * n + 6) (fun _ => 7 * n + 3) (bas8 n Pp G H y (fun j w => M j (2 * w)) (fun j w => M j (2 * w + 1))) (4 * n + 6) K) (E k) (D k))
  (hck : clmB P Q G y n C n M n A n B n Pp Yc Zc = true) (hpv : provB (sizeN P Q (4 * n + 6) (tgtT P Q G Xc Yc Zc n A B Pp (fun j w => C j (2 * w)) (fun j w => C j (2 * w + 1))) (4 * n + 6) (fun _ => 7 * n + 3) (bas8 n Pp G H y (fun j w => M j (2 * w)) (fun j w => M j (2 * w + 1)))) (7 * n + 3) nD = true) :
  Calls prog 32 #[gv P Q G H a m cap, .string (strOfNums label), .int .u64 y, .slice bi n ci, .slice bo n co, dv bρ n cρ bR n cR bS n cS bT n cT bD nD cD] w (GivS w true n M A B Pp (4 * n + 6) K (7 * n + 3) Zf) := by
 have uX : U64 Xc := by rw [hXc]; exact zat _ _ _ _
 have uY : U64 Yc := by rw [hYc]; exact zat _ _ _ _
 have uZ : U64 Zc := by rw [hZc]; exact zat _ _ _ _
 have HMx : Hid (∀ wx, Old w wx -> Calls prog 16 #[gv P Q G H a m cap, .int .u64 y, .slice bi n ci, .slice bo n co, .slice bρ n cρ] wx fun e w' => Old wx w' /\ ∃ b c, e = .returned (.tuple #[.slice b n c, .bool true]) /\ BoxF w' b n M) := fun wx ho => (rmix8_any P Q G H a m cap y bi n ci C bo n co O bρ n cρ Rh wx h4 hr hy (by omega) (by omega) (by omega) (hC.old ho) (hO.old ho) (hρ.old ho)).mono fun e w' h => by
  rw [hmx, <- hM] at h
  exact h
 have HFi : Hid (∀ wx, Old w wx -> Calls prog 21 #[gv P Q G H a m cap, .slice bo n co, .slice bR n cR] wx fun e w' => Old wx w' /\ ∃ b c, e = .returned (.slice b n c) /\ Nums w' wx.heap.size (.slice b n c) n A) := fun wx ho => (rfirst8_any P Q G H a m cap bo n co O bR cR R wx h4 hor (hO.old ho) (hR.old ho)).mono fun e w' ⟨k, v, he, hN⟩ => by
  obtain ⟨b, c, rfl, q1, q2, hf⟩ := hN.facs2 (fun i _ => zaQ _ _ _ _ _ _)
  rw [hA]
  exact ⟨k, b, c, he, hN⟩
 have HSe : Hid (∀ wx, Old w wx -> Calls prog 23 #[gv P Q G H a m cap, .slice bo n co, .int .u64 Xc, .slice bS n cS] wx fun e w' => Old wx w' /\ ∃ b c, e = .returned (.slice b n c) /\ Nums w' wx.heap.size (.slice b n c) n B) := fun wx ho => (rsecond8_any P Q G H a m cap bo n co O Xc bS cS S wx h4 uX hor (hO.old ho) (hS.old ho)).mono fun e w' ⟨k, v, he, hN⟩ => by
  obtain ⟨b, c, rfl, q1, q2, hf⟩ := hN.facs2 (fun i _ => zaQ _ _ _ _ _ _)
  rw [hB]
  exact ⟨k, b, c, he, hN⟩
 have HTh : Hid (∀ wx ba ca bb cb bp np cp, Old w wx -> FacsIn wx ba n A -> FacsIn wx bb n B -> Calls prog 25 #[gv P Q G H a m cap, .slice bo n co, tk ba n ca Xc bb n cb Yc Zc bp np cp, dv bρ n cρ bR n cR bS n cS bT n cT bD nD cD] wx fun e w' => Old wx w' /\ ∃ b c, e = .returned (.slice b n c) /\ Nums w' wx.heap.size (.slice b n c) n Pp) := fun wx ba ca bb cb bp np cp ho ha hb => (rthird8_any P Q G H a m cap bo n co O ba ca A Xc bb cb B Yc Zc bp np cp bρ n cρ bR n cR bS n cS bT cT T bD nD cD wx h4 uX uY uZ hor (hO.old ho) ha hb (hT.old ho)).mono fun e w' ⟨k, v, he, hN⟩ => by
  obtain ⟨b, c, rfl, q1, q2, hf⟩ := hN.facs2 (fun i _ => zfN _ _ _ _ _ _ _ _ _ _ _ i)
  rw [hP]
  exact ⟨k, b, c, he, hN⟩
 have HAu : Hid (∀ i, U64 (A i)) := fun i => by rw [hA]; exact zaQ _ _ _ _ _ _
 have HBu : Hid (∀ i, U64 (B i)) := fun i => by rw [hB]; exact zaQ _ _ _ _ _ _
 have HPu : Hid (∀ i, U64 (Pp i)) := fun i => by rw [hP]; exact zfN _ _ _ _ _ _ _ _ _ _ _ i
 have hMu : ∀ j k, j < n -> k < 6 -> U64 (M j k) := fun j k hj hk => by rw [hM]; exact zdS _ _ _ _ _ _ _ j k
 have hck2 := hck
 unfold clmB at hck2
 rw [Bool.and_eq_true_iff, Bool.and_eq_true_iff, decide_eq_true_eq] at hck2
 have HCl : Hid (∀ wx bm cm ba ca bb cb bp cp, Old w wx -> BoxsIn wx bm n M -> FacsIn wx ba n A -> FacsIn wx bb n B -> FacsIn wx bp n Pp -> Calls prog 29 #[gv P Q G H a m cap, .int .u64 y, .slice bi n ci, .slice bm n cm, tk ba n ca Xc bb n cb Yc Zc bp n cp] wx (GivD wx true (4 * n + 6) (tgtT P Q G Xc Yc Zc n A B Pp (fun j w => C j (2 * w)) (fun j w => C j (2 * w + 1))) (fun _ => 7 * n + 3) (bas8 n Pp G H y (fun j w => M j (2 * w)) (fun j w => M j (2 * w + 1))))) := fun wx bm cm ba ca bb cb bp cp ho hb ha hbb hp => rclm8_yes P Q G H a m cap y bi ci C bm cm M ba ca A Xc bb cb B Yc Zc bp cp Pp n wx h1n hn h4 hy uX uY uZ (hC.old ho) hb ha hbb hp hck2.2.1 hck2.2.2
 have HTu : Hid (∀ j, U64 ((tgtT P Q G Xc Yc Zc n A B Pp (fun j w => C j (2 * w)) (fun j w => C j (2 * w + 1))) j)) := u64_tgt (fun i _ => HAu.out i) (fun i _ => HBu.out i) (fun i _ => HPu.out i)
 have HRu : Hid (∀ j, j < 4 * n + 6 -> ∀ k, U64 ((bas8 n Pp G H y (fun j w => M j (2 * w)) (fun j w => M j (2 * w + 1))) j k)) := u64_bas ⟨h4.g0, h4.g1⟩ ⟨h4.h0, h4.h1⟩ hy (fun i _ => HPu.out i) (fun i k hi hk => hMu i k hi hk)
 clear hck2
 have HEx : Hid (∀ wx ba ca bb cb bp np cp, Old w wx -> Calls prog 27 #[gv P Q G H a m cap, .slice bo n co, tk ba n ca Xc bb n cb Yc Zc bp np cp, dv bρ n cρ bR n cR bS n cS bT n cT bD nD cD] wx fun e w' => Old wx w' /\ ∃ v, e = .returned v /\ Nums w' wx.heap.size v (7 * n + 3) E) := fun wx ba ca bb cb bp np cp ho => (rexp8_yes P Q G H a m cap bo co O ba n ca Xc bb n cb Yc Zc bp np cp bρ cρ Rh bR cR R bS cS S bT cT T bD nD cD n wx (by have := hr.q1'; omega) ⟨h4.q0, h4.q1⟩ uX uY uZ hor (hO.old ho) (hρ.old ho) (hR.old ho) (hS.old ho) (hT.old ho)).mono fun e w' hg => by
  rw [hE]
  exact hg.list (by omega)
 have HEu : Hid (∀ i, i < 7 * n + 3 -> U64 (E i)) := fun i _ => by rw [hE]; exact u64_exF8 hr.q1' h4.q1 i
 have HPv : Hid (∀ wx bt ct b2 c2 BA Cc be ce, Old w wx -> ClaimIn wx bt (4 * n + 6) ct (tgtT P Q G Xc Yc Zc n A B Pp (fun j w => C j (2 * w)) (fun j w => C j (2 * w + 1))) b2 (4 * n + 6) c2 BA (fun _ => 7 * n + 3) Cc (bas8 n Pp G H y (fun j w => M j (2 * w)) (fun j w => M j (2 * w + 1))) -> FacsIn wx be (7 * n + 3) E -> 7 * n + 3 <= ce -> Calls prog 92 #[gv P Q G H a m cap, .string (strOfNums label), cv bt (4 * n + 6) ct b2 (4 * n + 6) c2, .slice be (7 * n + 3) ce, .slice bD nD cD] wx (GivesP wx true (4 * n + 6) K (7 * n + 3) Zf)) := fun wx bt ct b2 c2 BA Cc be ce ho hc he hce => by
  have h := rprove_any label P Q G H a m cap bt (4 * n + 6) ct (tgtT P Q G Xc Yc Zc n A B Pp (fun j w => C j (2 * w)) (fun j w => C j (2 * w + 1))) b2 (4 * n + 6) c2 BA (fun _ => 7 * n + 3) Cc (bas8 n Pp G H y (fun j w => M j (2 * w)) (fun j w => M j (2 * w + 1))) be (7 * n + 3) ce E bD nD cD D K hK wx h4 hlb hll (by omega) (by omega) (fun j _ => by show 7 * n + 3 <= 80; omega) (by omega) hc he (hD.old ho)
  rw [hpv, <- hZ] at h
  exact h
 obtain ⟨Tg, hTg⟩ : ∃ Tg, Tg = (tgtT P Q G Xc Yc Zc n A B Pp (fun j w => C j (2 * w)) (fun j w => C j (2 * w + 1))) := ⟨_, rfl⟩
 obtain ⟨Bg, hBg⟩ : ∃ Bg, Bg = (bas8 n Pp G H y (fun j w => M j (2 * w)) (fun j w => M j (2 * w + 1))) := ⟨_, rfl⟩
 rw [<- hTg, <- hBg] at HCl HPv
 rw [<- hTg] at HTu
 rw [<- hBg] at HRu
 clear hTg hBg hMu hck hpv hK hZ hE
 have HCh : Hid (∀ wx ba ca bb nb cb bm cm, nb <= 80 -> Old w wx -> BoxsIn wx bm n M -> FacsIn wx ba n A -> FacsIn wx bb nb B -> Calls prog 91 #[gv P Q G H a m cap, .string (strOfNums label), .int .u64 y, .slice bi n ci, .slice bm n cm, .agg #[.slice ba n ca, .slice bb nb cb, .slice none 0 0, .slice none 0 0, .slice none 0 0]] wx (Ret wx (.tuple #[.int .u64 Xc, .int .u64 (zaj label (namS 121 (morS (comS P Q G H y n C n M n A) nb B)) 6 Q), .int .u64 (zaj label (namS 122 (morS (comS P Q G H y n C n M n A) nb B)) 6 Q)]))) := fun wx ba ca bb nb cb bm cm h80 ho hb ha hbb => by
  rw [hXc, <- chx8_eq]
  exact rchal8_any P Q G H a m cap label y bi n ci C bm n cm M ba n ca A bb nb cb B none 0 0 none 0 0 none 0 0 wx h4 hlb hll hy (by omega) (by omega) (by omega) (by omega) (hC.old ho) hb ha hbb
 have HCh1 : Hid (∀ wx ba ca bm cm, Old w wx -> BoxsIn wx bm n M -> FacsIn wx ba n A -> Calls prog 91 #[gv P Q G H a m cap, .string (strOfNums label), .int .u64 y, .slice bi n ci, .slice bm n cm, .agg #[.slice ba n ca, .slice none 0 0, .slice none 0 0, .slice none 0 0, .slice none 0 0]] wx fun e w' => ∃ y1 z1, e = .returned (.tuple #[.int .u64 Xc, .int .u64 y1, .int .u64 z1]) /\ Old wx w') := fun wx ba ca bm cm ho hb ha => (HCh.out wx ba ca none 0 0 bm cm (by omega) ho hb ha (Or.inl rfl)).mono fun e w' h => ⟨_, _, h⟩
 have HCh2 : Hid (∀ wx ba ca bb cb bm cm, Old w wx -> BoxsIn wx bm n M -> FacsIn wx ba n A -> FacsIn wx bb n B -> Calls prog 91 #[gv P Q G H a m cap, .string (strOfNums label), .int .u64 y, .slice bi n ci, .slice bm n cm, .agg #[.slice ba n ca, .slice bb n cb, .slice none 0 0, .slice none 0 0, .slice none 0 0]] wx (Ret wx (.tuple #[.int .u64 Xc, .int .u64 Yc, .int .u64 Zc]))) := fun wx ba ca bb cb bm cm ho hb ha hbb => by
  have h := HCh.out wx ba ca bb n cb bm cm (by omega) ho hb ha hbb
  rw [chyz8_eq, chyz8_eq, <- hYc, <- hZc] at h
  exact h
 have HnD := hid ((zb1.1 hdr).2.2.2)
 clear HCh hYc hZc hXc hM hA hB hP hmx hdr hor hC hO hρ hR hS hT hD uX uY uZ h4 hr hy hlb hll hcT hcD
 have HZ := lain3 w (gc P Q G H a m cap) (dvc bρ n cρ bR n cR bS n cS bT n cT bD nD cD) #[.slice none 0 0, .slice none 0 0, .slice none 0 0, .slice none 0 0, .slice none 0 0] 25 31 57
 have HG0 := fun w' ho => (HZ.then (W' := w') ho).row 0 (by simp)
 have HD0 := fun w' ho => (HZ.then (W' := w') ho).row 1 (by simp)
 have HS0 := fun w' ho => (HZ.then (W' := w') ho).row 2 (by simp)
 have HW0 := hid HZ.old
 clear HZ
 go_enter func32, ntmps32
 go_upto_region 1 with fail
 generalize ((w.alloc (.cells (gc P Q G H a m cap) 25)).alloc (.cells (dvc bρ n cρ bR n cR bS n cS bT n cT bD nD cD) 31)).alloc (.cells #[.slice none 0 0, .slice none 0 0, .slice none 0 0, .slice none 0 0, .slice none 0 0] 57) = W1 at *
 have HG := hid HG0
 have HDd := hid HD0
 have HSh := hid HS0
 clear HG0 HD0 HS0
 obtain ⟨gb, hgb⟩ : ∃ gb, gb = w.heap.size := ⟨_, rfl⟩
 rw [<- hgb] at HG HDd HSh
 rw [<- hgb]
 have HGs : Hid (w.heap.size <= gb + 1 + 1) := by unfold Hid; omega
 clear hgb
 have HGc : Hid (∀ wx, Old W1 wx -> G5 wx (gb) P Q G H (.slice a m cap)) := fun wx ho => g5 (HG.out _ ho)
 have HDc : Hid (∀ wx, Old W1 wx -> wx.cell? ⟨gb + 1, 0, none⟩ = some (.slice bρ n cρ) /\ wx.cell? ⟨gb + 1, 1, none⟩ = some (.slice bR n cR) /\ wx.cell? ⟨gb + 1, 2, none⟩ = some (.slice bS n cS) /\ wx.cell? ⟨gb + 1, 3, none⟩ = some (.slice bT n cT) /\ wx.cell? ⟨gb + 1, 4, none⟩ = some (.slice bD nD cD)) := fun wx ho => g5 (HDd.out _ ho)
 obtain ⟨g0, g1, g2, g3, g4⟩ := HGc.out _ (Old.refl _)
 obtain ⟨d0, d1, d2, d3, d4⟩ := HDc.out _ (Old.refl _)
 go_upto_region 2 with (go_at_call 16; refine (HMx.out _ HW0.out).mono ?_; rintro e w2 ⟨o2, bm, cm, rfl, hbm⟩)
 clear g0 g1 g2 g3 g4 d0 d1 d2 d3 d4 HMx
 have HO2 := hid o2
 have HB2 := hid hbm
 clear o2 hbm
 obtain ⟨d0, d1, d2, d3, d4⟩ := HDc.out _ HO2.out
 have e1 : IntKind.i64.wrap (7 * (n : Int)) = 7 * (n : Int) := by rw [IntKind.wrap_i64]; omega
 have e2 : IntKind.i64.wrap (7 * (n : Int) + 3) = 7 * (n : Int) + 3 := by rw [IntKind.wrap_i64]; omega
 have e3 : (nD : Int) = 7 * (n : Int) + 3 := by have := HnD.out; omega
 go_upto_region 5 with fail
 clear d0 d1 d2 d3 d4 e1 e2 e3
 obtain ⟨g0, g1, g2, g3, g4⟩ := HGc.out _ HO2.out
 obtain ⟨d0, d1, d2, d3, d4⟩ := HDc.out _ HO2.out
 go_upto_region 6 with (go_at_call 21; refine (HFi.out _ (HW0.out.trans HO2.out)).mono ?_; rintro e w3 ⟨o3, ba, ca, rfl, hfa⟩)
 clear g0 g1 g2 g3 g4 d0 d1 d2 d3 d4 HFi
 have HO3 := hid (HO2.out.trans o3)
 have HB3 := hid (HB2.out.old o3)
 have HNa3 := hid (hfa.mono (HW0.out.trans HO2.out).size)
 have HO34 : Hid (Old w3 (w3.alloc (.cells #[.slice ba n ca, .slice none 0 0, .slice none 0 0, .slice none 0 0, .slice none 0 0] 57))) := (Old.refl _).alloc _
 have HR4 : Hid ((w3.alloc (.cells #[.slice ba n ca, .slice none 0 0, .slice none 0 0, .slice none 0 0, .slice none 0 0] 57)).heap[w3.heap.size]? = some (.cells #[.slice ba n ca, .slice none 0 0, .slice none 0 0, .slice none 0 0, .slice none 0 0] 57 (0, 0))) := heap_alloc_last _ _
 clear o3 hfa HB2 HO2
 generalize w3.alloc (.cells #[.slice ba n ca, .slice none 0 0, .slice none 0 0, .slice none 0 0, .slice none 0 0] 57) = w4 at *
 obtain ⟨sb, hsb⟩ : ∃ sb, sb = w3.heap.size := ⟨_, rfl⟩
 rw [<- hsb] at HR4
 rw [<- hsb]
 have Hsb : Hid (w3.heap.size <= sb) := by unfold Hid; omega
 clear hsb
 have HO4 := hid (HO3.out.trans HO34.out)
 obtain ⟨g0, g1, g2, g3, g4⟩ := HGc.out _ HO4.out
 obtain ⟨s0, s1, s2, s3, s4⟩ := g5 HR4.out
 have HFa4 := hid (zas (HNa3.out.old HO34.out) HAu.out)
 go_upto_region 7 with (go_at_call 91; refine (HCh1.out _ ba ca bm cm (HW0.out.trans HO4.out) (HB3.out.old HO34.out).boxs HFa4.out).mono ?_; rintro e w5 ⟨y1, z1, rfl, o5⟩)
 clear g0 g1 g2 g3 g4 s0 s1 s2 s3 s4 HFa4 HCh1
 have HO35 := hid (HO34.out.trans o5)
 have HR5 : Hid (w5.heap[sb]? = some (.cells #[.slice ba n ca, .slice none 0 0, .slice none 0 0, .slice none 0 0, .slice none 0 0] 57 (0, 0))) := (o5.block _ (zag HR4.out)).trans HR4.out
 have Hsb5 := hid (zag HR5.out)
 have H5s := hid (((HW0.out.trans HO3.out).trans HO35.out).size)
 clear o5 HR4 HO34 HO4
 obtain ⟨g0, g1, g2, g3, g4⟩ := HGc.out _ (HO3.out.trans HO35.out)
 obtain ⟨d0, d1, d2, d3, d4⟩ := HDc.out _ (HO3.out.trans HO35.out)
 go_upto_region 8 with (go_at_call 23; refine (HSe.out _ ((HW0.out.trans HO3.out).trans HO35.out)).mono ?_; rintro e w6 ⟨o6, bb, cb, rfl, hfb⟩; have hr6 := (o6.block _ Hsb5.out).trans HR5.out; have q1 : w6.cell? ⟨sb, 1, none⟩ = some (.slice none 0 0) := Y1 hr6; have f1 : w6.frozen? ⟨sb, 1, none⟩ = false := zac hr6 1)
 clear g0 g1 g2 g3 g4 d0 d1 d2 d3 d4 q1 f1 HSe
 have HR7 : Hid ((w6.setCell ⟨sb, 1, none⟩ (.slice bb n cb)).heap[sb]? = some (.cells #[.slice ba n ca, .slice bb n cb, .slice none 0 0, .slice none 0 0, .slice none 0 0] 57 (0, 0))) := by
  have := zaq hr6 1 (.slice bb n cb)
  unfold Hid; simpa using this
 have HO37 : Hid (Old w3 (w6.setCell ⟨sb, 1, none⟩ (.slice bb n cb))) := (HO35.out.trans o6).setCell (p := ⟨sb, 1, none⟩) Hsb.out _
 have HNb7 : Hid (Nums (w6.setCell ⟨sb, 1, none⟩ (.slice bb n cb)) w5.heap.size (.slice bb n cb) n B) := ownsRow_setCell_below hfb (a := ⟨sb, 1, none⟩) Hsb5.out _
 clear hr6 o6 hfb HR5 HO35
 generalize w6.setCell ⟨sb, 1, none⟩ (.slice bb n cb) = w7 at *
 obtain ⟨g0, g1, g2, g3, g4⟩ := HGc.out _ (HO3.out.trans HO37.out)
 obtain ⟨s0, s1, s2, s3, s4⟩ := g5 HR7.out
 have HFa7 := hid (zas (HNa3.out.old HO37.out) HAu.out)
 have HFb7 := hid (zas HNb7.out HBu.out)
 go_upto_region 9 with (go_at_call 91; refine (HCh2.out _ ba ca bb cb bm cm ((HW0.out.trans HO3.out).trans HO37.out) (HB3.out.old HO37.out).boxs HFa7.out HFb7.out).mono ?_; rintro e w8 ⟨rfl, o8⟩)
 clear g0 g1 g2 g3 g4 s0 s1 s2 s3 s4 HFa7 HFb7 HCh2
 have HR8 : Hid (w8.heap[sb]? = some (.cells #[.slice ba n ca, .slice bb n cb, .slice none 0 0, .slice none 0 0, .slice none 0 0] 57 (0, 0))) := (o8.block _ (zag HR7.out)).trans HR7.out
 have s0 : w8.cell? ⟨sb, 0, none⟩ = some (.slice ba n ca) := Y0 HR8.out
 have s1 : w8.cell? ⟨sb, 1, none⟩ = some (.slice bb n cb) := Y1 HR8.out
 go_upto_region 10 with fail
 clear s0 s1
 have HO89 : Hid (Old w8 (w8.alloc (.cells (tkc ba n ca Xc bb n cb Yc Zc none 0 0) 41))) := (Old.refl _).alloc _
 have HO39 := hid ((HO37.out.trans o8).trans HO89.out)
 have HNb9 := hid (HNb7.out.old (o8.trans HO89.out))
 have HR9 : Hid ((w8.alloc (.cells (tkc ba n ca Xc bb n cb Yc Zc none 0 0) 41)).heap[sb]? = some (.cells #[.slice ba n ca, .slice bb n cb, .slice none 0 0, .slice none 0 0, .slice none 0 0] 57 (0, 0))) := (HO89.out.block _ (zag HR8.out)).trans HR8.out
 have HQ9 : Hid ((w8.alloc (.cells (tkc ba n ca Xc bb n cb Yc Zc none 0 0) 41)).heap[w8.heap.size]? = some (.cells (tkc ba n ca Xc bb n cb Yc Zc none 0 0) 41 (0, 0))) := heap_alloc_last _ _
 have Htb3 := hid ((HO37.out.trans o8).size)
 have Hst := hid (Nat.ne_of_lt (zag HR8.out))
 clear o8 HR7 HR8 HNb7 HO37 HO89
 generalize w8.alloc (.cells (tkc ba n ca Xc bb n cb Yc Zc none 0 0) 41) = w9 at *
 generalize w8.heap.size = tb at *
 have Htb9 := hid (zag HQ9.out)
 have Hsb9 := hid (zag HR9.out)
 have H9s := hid (((HW0.out.trans HO3.out).trans HO39.out).size)
 obtain ⟨g0, g1, g2, g3, g4⟩ := HGc.out _ (HO3.out.trans HO39.out)
 obtain ⟨d0, d1, d2, d3, d4⟩ := HDc.out _ (HO3.out.trans HO39.out)
 obtain ⟨t0, t1, t2, t3, t4, t5⟩ := g6 HQ9.out
 have HFa9 := hid (zas (HNa3.out.old HO39.out) HAu.out)
 have HFb9 := hid (zas HNb9.out HBu.out)
 go_upto_region 11 with (go_at_call 25; refine (HTh.out _ _ _ _ _ _ _ _ ((HW0.out.trans HO3.out).trans HO39.out) HFa9.out HFb9.out).mono ?_; rintro e wa ⟨oa, bp, cp, rfl, hfp⟩; have hra := (oa.block _ Hsb9.out).trans HR9.out; have q1 : wa.cell? ⟨sb, 2, none⟩ = some (.slice none 0 0) := Y2 hra; have f1 : wa.frozen? ⟨sb, 2, none⟩ = false := zac hra 2)
 clear g0 g1 g2 g3 g4 d0 d1 d2 d3 d4 t0 t1 t2 t3 t4 t5 q1 f1 HFa9 HFb9 HTh
 have HRb : Hid ((wa.setCell ⟨sb, 2, none⟩ (.slice bp n cp)).heap[sb]? = some (.cells #[.slice ba n ca, .slice bb n cb, .slice bp n cp, .slice none 0 0, .slice none 0 0] 57 (0, 0))) := by
  have := zaq hra 2 (.slice bp n cp)
  unfold Hid; simpa using this
 have HQb : Hid ((wa.setCell ⟨sb, 2, none⟩ (.slice bp n cp)).heap[tb]? = some (.cells (tkc ba n ca Xc bb n cb Yc Zc none 0 0) 41 (0, 0))) := by
  have h := (oa.block _ Htb9.out).trans HQ9.out
  exact (Below.heap_setCell _ ⟨sb, 2, none⟩ _ _ (Ne.symm Hst.out)).trans h
 have HO3b : Hid (Old w3 (wa.setCell ⟨sb, 2, none⟩ (.slice bp n cp))) := (HO39.out.trans oa).setCell (p := ⟨sb, 2, none⟩) Hsb.out _
 have HNbb : Hid (Nums (wa.setCell ⟨sb, 2, none⟩ (.slice bp n cp)) w5.heap.size (.slice bb n cb) n B) := ownsRow_setCell_below (HNb9.out.old oa) (a := ⟨sb, 2, none⟩) Hsb5.out _
 have HNpb : Hid (Nums (wa.setCell ⟨sb, 2, none⟩ (.slice bp n cp)) w9.heap.size (.slice bp n cp) n Pp) := ownsRow_setCell_below hfp (a := ⟨sb, 2, none⟩) Hsb9.out _
 clear hra oa hfp HR9 HQ9 HO39 HNb9
 generalize wa.setCell ⟨sb, 2, none⟩ (.slice bp n cp) = wb at *
 have s2 : wb.cell? ⟨sb, 2, none⟩ = some (.slice bp n cp) := Y2 HRb.out
 have q1 : wb.cell? ⟨tb, 5, none⟩ = some (.slice none 0 0) := Y5 HQb.out
 have f1 : wb.frozen? ⟨tb, 5, none⟩ = false := zac HQb.out 5
 have HRc : Hid ((wb.setCell ⟨tb, 5, none⟩ (.slice bp n cp)).heap[sb]? = some (.cells #[.slice ba n ca, .slice bb n cb, .slice bp n cp, .slice none 0 0, .slice none 0 0] 57 (0, 0))) := (Below.heap_setCell _ ⟨tb, 5, none⟩ _ _ Hst.out).trans HRb.out
 have HQc : Hid ((wb.setCell ⟨tb, 5, none⟩ (.slice bp n cp)).heap[tb]? = some (.cells (tkc ba n ca Xc bb n cb Yc Zc bp n cp) 41 (0, 0))) := by
  have := zaq HQb.out 5 (.slice bp n cp)
  unfold Hid; simpa using this
 have HO3c : Hid (Old w3 (wb.setCell ⟨tb, 5, none⟩ (.slice bp n cp))) := HO3b.out.setCell (p := ⟨tb, 5, none⟩) Htb3.out _
 have HNbc : Hid (Nums (wb.setCell ⟨tb, 5, none⟩ (.slice bp n cp)) w5.heap.size (.slice bb n cb) n B) := own_oth8 HNbb.out (p := ⟨tb, 5, none⟩) (own_ne8 (by decide) HNbb.out HQb.out) _
 have HNpc : Hid (Nums (wb.setCell ⟨tb, 5, none⟩ (.slice bp n cp)) w9.heap.size (.slice bp n cp) n Pp) := ownsRow_setCell_below HNpb.out (a := ⟨tb, 5, none⟩) Htb9.out _
 clear HRb HQb HO3b HNbb HNpb
 go_upto_region 12 with fail
 clear s2 q1 f1
 generalize wb.setCell ⟨tb, 5, none⟩ (.slice bp n cp) = wc at *
 have HOc := hid (HO3.out.trans HO3c.out)
 obtain ⟨g0, g1, g2, g3, g4⟩ := HGc.out _ HOc.out
 obtain ⟨t0, t1, t2, t3, t4, t5⟩ := g6 HQc.out
 have HFac := hid (zas (HNa3.out.old HO3c.out) HAu.out)
 have HFbc := hid (zas HNbc.out HBu.out)
 have HFpc := hid (zas HNpc.out HPu.out)
 go_upto_region 13 with (go_at_call 29; refine (HCl.out _ _ cm _ _ _ _ _ _ (HW0.out.trans HOc.out) (HB3.out.old HO3c.out).boxs HFac.out HFbc.out HFpc.out).mono ?_; intro e we hd; obtain ⟨bt, ct, b2, c2, BA, Cc, rfl, oe, hcl⟩ := GivD.made hd (fun j _ => HTu.out j) (fun j hj i _ => HRu.out j hj i))
 clear t0 t1 t2 t3 t4 t5 g0 g1 g2 g3 g4 hd HFac HFbc HFpc HTu HRu HCl HGc HDc
 have HOe : Old we (we.alloc (.cells #[.slice bt (4 * n + 6) ct, .slice b2 (4 * n + 6) c2] 50)) := (Old.refl _).alloc _
 have HOcf := hid (oe.trans HOe)
 have HCf := hid (hcl.old HOe)
 have HRf : Hid ((we.alloc (.cells #[.slice bt (4 * n + 6) ct, .slice b2 (4 * n + 6) c2] 50)).heap[we.heap.size]? = some (.cells #[.slice bt (4 * n + 6) ct, .slice b2 (4 * n + 6) c2] 50 (0, 0))) := heap_alloc_last _ _
 clear HOe hcl oe
 generalize we.alloc (.cells #[.slice bt (4 * n + 6) ct, .slice b2 (4 * n + 6) c2] 50) = wf at *
 generalize we.heap.size = lb8 at *
 have HGf := hid fun wx (ho : Old wf wx) => HG.out wx ((HOc.out.trans HOcf.out).trans ho)
 have HDf := hid fun wx (ho : Old wf wx) => HDd.out wx ((HOc.out.trans HOcf.out).trans ho)
 have HTf := hid fun wx (ho : Old wf wx) => ((HOcf.out.trans ho).block _ (zag HQc.out)).trans HQc.out
 have HCr := hid fun wx (ho : Old wf wx) => (ho.block _ (zag HRf.out)).trans HRf.out
 refine zfm (Rl := OldT 55) 17 [.k (gv P Q G H a m cap), .k (.string (strOfNums label)), .k (cv bt (4 * n + 6) ct b2 (4 * n + 6) c2), .k (gv P Q G H a m cap), .k (.slice bo n co), .k (tk ba n ca Xc bb n cb Yc Zc bp n cp), .k (dv bρ n cρ bR n cR bS n cS bT n cT bD nD cD), numE (by decide) wf.heap.size (7 * n + 3) E, .k (.pointer (some ⟨gb + 1, 4, none⟩)), .k (.slice bD nD cD), prP wf.heap.size (4 * n + 6) K (7 * n + 3) Zf (fun a => .tuple #[a, .bool true]), prP wf.heap.size (4 * n + 6) K (7 * n + 3) Zf (fun a => .tuple #[a, .bool true]), prP wf.heap.size (4 * n + 6) K (7 * n + 3) Zf id, .k (.bool true), varE 55 2 wf.heap.size, putE 55 14 12 wf.heap.size, .k (.bool true)] (Old wf) (by kernel_rfl) (by kernel_rfl) rfl (by kernel_rfl) ((Old.refl _).drew) ?st ?_
 case st =>
  refine .c (stsy U25 HGf.out) <| .c stpy <| .c (stsy U50 HCr.out) <| .c (stsy U25 HGf.out) <| .c stpy <| .c (stsy U41 HTf.out) <| .c (stsy U31 HDf.out) <| .c (stCy (args := fun t => #[gv P Q G H a m cap, .slice bo n co, tk ba n ca Xc bb n cb Yc Zc bp n cp, dv bρ n cρ bR n cR bS n cS bT n cT bD nD cD]) old_R func27 fun t wx hR hd => ?_) <| .c stpy <| .c (stfy 4 U29 HDf.out) <| .c (stCy (args := fun t => #[gv P Q G H a m cap, .string (strOfNums label), cv bt (4 * n + 6) ct b2 (4 * n + 6) c2, t 7, .slice bD nD cD]) old_R func92 fun t wx hR hd => ?_) <| .c (stxy fun t wx hR hd => ⟨t 10, by kernel_rfl, hd 10 (by kernel_rfl)⟩) <| .c (stxy fun t wx hR hd => ?_) <| .c (stzy fun t wx hR hd => ?_) <| .c (stmy (ob := fun _ => .cells #[.slice none 0 0, .slice none 0 0] 55) (v := fun s => .pointer (some ⟨s, 0, none⟩)) old_R fun t wx hR hd => ⟨_, rfl, hR.size, _, heap_alloc_last _ _, rfl⟩) <| .c (stPy (n := 2) (fun _ _ => True) (fun w g cells h hg => h.setRow hg cells) fun t wx hR hd => ?_) <| .c stpy .n
  ·exact (HEx.out wx ba ca bb cb bp n cp (HW0.out.trans ((HOc.out.trans HOcf.out).trans hR))).mono fun r w' ⟨o, v, e, hN⟩ => ⟨_, e, o, hN.mono hR.size⟩
  ·have hN : Nums wx wf.heap.size (t 7) (7 * n + 3) E := hd 7 (by kernel_rfl)
   obtain ⟨be, ce, e7, q1, q2, hf⟩ := hN.facs2 (fun i hi => HEu.out i hi)
   rw [e7]
   refine (HPv.out wx bt ct b2 c2 BA Cc be ce (HW0.out.trans ((HOc.out.trans HOcf.out).trans hR)) (HCf.out.old hR) hf q1).mono ?_
   rintro e wg ⟨og, v, u, rfl, N1, N2⟩
   simp only [if_true] at N1 N2
   obtain ⟨bk, ck, rfl⟩ := zau N1
   obtain ⟨bz, cz, rfl⟩ := zau N2
   exact ⟨_, rfl, og, bk, ck, bz, cz, rfl, N1.mono hR.size, N2.mono hR.size⟩
  ·obtain ⟨bk, ck, bz, cz, e, N1, N2⟩ : ∃ bk ck bz cz, t 11 = .tuple #[.agg #[.slice bk (4 * n + 6) ck, .slice bz (7 * n + 3) cz], .bool true] /\ Nums wx wf.heap.size (.slice bk (4 * n + 6) ck) (4 * n + 6) K /\ Nums wx wf.heap.size (.slice bz (7 * n + 3) cz) (7 * n + 3) Zf := hd 11 (by kernel_rfl)
   exact ⟨_, zfq (Eq.trans (b := t 11) (by kernel_rfl) e) rfl, bk, ck, bz, cz, rfl, N1, N2⟩
  ·obtain ⟨bk, ck, bz, cz, e, N1, N2⟩ : ∃ bk ck bz cz, t 11 = .tuple #[.agg #[.slice bk (4 * n + 6) ck, .slice bz (7 * n + 3) cz], .bool true] /\ Nums wx wf.heap.size (.slice bk (4 * n + 6) ck) (4 * n + 6) K /\ Nums wx wf.heap.size (.slice bz (7 * n + 3) cz) (7 * n + 3) Zf := hd 11 (by kernel_rfl)
   exact zfq (Eq.trans (b := t 11) (by kernel_rfl) e) rfl
  ·obtain ⟨bk, ck, bz, cz, e12, _⟩ : ∃ bk ck bz cz, t 12 = .agg #[.slice bk (4 * n + 6) ck, .slice bz (7 * n + 3) cz] /\ Nums wx wf.heap.size (.slice bk (4 * n + 6) ck) (4 * n + 6) K /\ Nums wx wf.heap.size (.slice bz (7 * n + 3) cz) (7 * n + 3) Zf := hd 12 (by kernel_rfl)
   obtain ⟨b, e14, hb, cs, hcs, hs⟩ : ∃ b, t 14 = .pointer (some ⟨b, 0, none⟩) /\ wf.heap.size <= b /\ ∃ cs, wx.heap[b]? = some (.cells cs 55 (0, 0)) /\ cs.size = 2 := hd 14 (by kernel_rfl)
   exact ⟨b, _, cs, e14, e12, hb, hcs, hs, rfl, by simp [Value.oneCell']⟩
 intro t wx hR hk
 simp only [fill2, Ent2.val, numE, prP, varE, putE, Ls0, Ls1, Ld1, Ld0, Ldn]
 have HOw := hid hR
 obtain ⟨pb, csp, e15, hpb, hRp⟩ : ∃ b cs, [t 14, t 12] = [.pointer (some ⟨b, 0, none⟩), .agg cs] /\ wf.heap.size <= b /\ wx.heap[b]? = some (.cells cs 55 (0, 0)) := hk 15 (by omega)
 obtain ⟨bk, ck, bz, cz, e12, N1, N2⟩ : ∃ bk ck bz cz, t 12 = .agg #[.slice bk (4 * n + 6) ck, .slice bz (7 * n + 3) cz] /\ Nums wx wf.heap.size (.slice bk (4 * n + 6) ck) (4 * n + 6) K /\ Nums wx wf.heap.size (.slice bz (7 * n + 3) cz) (7 * n + 3) Zf := hk 12 (by omega)
 rw [e12] at e15
 have e14 : t 14 = .pointer (some ⟨pb, 0, none⟩) := by injection e15
 have ecs : csp = #[.slice bk (4 * n + 6) ck, .slice bz (7 * n + 3) cz] := by
  injection e15 with _ e15
  injection e15 with e15 _
  injection e15 with e15
  exact e15.symm
 subst ecs
 rw [e14]
 clear e14 e15 e12 hk
 have HOh := hid (HOcf.out.trans hR)
 have hrs := (HOh.out.block _ (zag HRc.out)).trans HRc.out
 have Hsf := hid (Nat.lt_of_lt_of_le (zag HRc.out) HOcf.out.size)
 have Hwf := hid (((HW0.out.trans HOc.out).trans HOcf.out).size)
 have p0 : wx.cell? ⟨pb, 0, none⟩ = some (.slice bk (4 * n + 6) ck) := Y0 hRp
 have p1 : wx.cell? ⟨pb, 1, none⟩ = some (.slice bz (7 * n + 3) cz) := Y1 hRp
 have q3 : wx.cell? ⟨sb, 3, none⟩ = some (.slice none 0 0) := Y3 hrs
 have q4 : wx.cell? ⟨sb, 4, none⟩ = some (.slice none 0 0) := Y4 hrs
 have f3 : wx.frozen? ⟨sb, 3, none⟩ = false := zac hrs 3
 have f4 : wx.frozen? ⟨sb, 4, none⟩ = false := zac hrs 4
 obtain ⟨VK, hVK⟩ : ∃ VK, VK = Value.slice bk (4 * n + 6) ck := ⟨_, rfl⟩
 obtain ⟨VZ, hVZ⟩ : ∃ VZ, VZ = Value.slice bz (7 * n + 3) cz := ⟨_, rfl⟩
 have HRy : Hid (((wx.setCell ⟨sb, 3, none⟩ (.slice bk (4 * n + 6) ck)).setCell ⟨sb, 4, none⟩ (.slice bz (7 * n + 3) cz)).heap[sb]? = some (.cells #[.slice ba n ca, .slice bb n cb, .slice bp n cp, .slice bk (4 * n + 6) ck, .slice bz (7 * n + 3) cz] 57 (0, 0))) := by
  have := zaq (zaq hrs 3 (.slice bk (4 * n + 6) ck)) 4 (.slice bz (7 * n + 3) cz)
  unfold Hid; simpa using this
 have HO3y : Hid (Old w3 ((wx.setCell ⟨sb, 3, none⟩ (.slice bk (4 * n + 6) ck)).setCell ⟨sb, 4, none⟩ (.slice bz (7 * n + 3) cz))) := ((HO3c.out.trans HOh.out).setCell (p := ⟨sb, 3, none⟩) Hsb.out _).setCell (p := ⟨sb, 4, none⟩) Hsb.out _
 have HNby : Hid (Nums ((wx.setCell ⟨sb, 3, none⟩ (.slice bk (4 * n + 6) ck)).setCell ⟨sb, 4, none⟩ (.slice bz (7 * n + 3) cz)) w5.heap.size (.slice bb n cb) n B) := ownsRow_setCell_below (ownsRow_setCell_below (HNbc.out.old HOh.out) (a := ⟨sb, 3, none⟩) Hsb5.out _) (a := ⟨sb, 4, none⟩) Hsb5.out _
 have HNpy : Hid (Nums ((wx.setCell ⟨sb, 3, none⟩ (.slice bk (4 * n + 6) ck)).setCell ⟨sb, 4, none⟩ (.slice bz (7 * n + 3) cz)) w9.heap.size (.slice bp n cp) n Pp) := ownsRow_setCell_below (ownsRow_setCell_below (HNpc.out.old HOh.out) (a := ⟨sb, 3, none⟩) Hsb9.out _) (a := ⟨sb, 4, none⟩) Hsb9.out _
 have HNky : Hid (Nums ((wx.setCell ⟨sb, 3, none⟩ (.slice bk (4 * n + 6) ck)).setCell ⟨sb, 4, none⟩ (.slice bz (7 * n + 3) cz)) wf.heap.size (.slice bk (4 * n + 6) ck) (4 * n + 6) K) := ownsRow_setCell_below (ownsRow_setCell_below N1 (a := ⟨sb, 3, none⟩) Hsf.out _) (a := ⟨sb, 4, none⟩) Hsf.out _
 have HNzy : Hid (Nums ((wx.setCell ⟨sb, 3, none⟩ (.slice bk (4 * n + 6) ck)).setCell ⟨sb, 4, none⟩ (.slice bz (7 * n + 3) cz)) wf.heap.size (.slice bz (7 * n + 3) cz) (7 * n + 3) Zf) := ownsRow_setCell_below (ownsRow_setCell_below N2 (a := ⟨sb, 3, none⟩) Hsf.out _) (a := ⟨sb, 4, none⟩) Hsf.out _
 clear hVK hVZ N1 N2 hRp hpb hR hrs HGf HDf HCr HEx HCf HRf HPv HOw HTf HEu HRc HQc HNbc HNpc HOh HOcf HO3c
 clear VK VZ
 go_upto_region 15 with fail
 clear p0 p1 q3 q4 f3 f4
 generalize (wx.setCell ⟨sb, 3, none⟩ (.slice bk (4 * n + 6) ck)).setCell ⟨sb, 4, none⟩ (.slice bz (7 * n + 3) cz) = wy at *
 have HG0w := hid HGs.out
 have Hne : Hid (gb + 1 + 1 ≠ sb) := by
  have h1 := zag (HSh.out w3 HO3.out)
  have h2 := Hsb.out
  unfold Hid
  omega
 have HSk := hid fun wz (ho : (Old w wz /\ OldT 57 wy wz /\ wz.heap[sb]? = some (.cells #[.slice ba n ca, .slice bb n cb, .slice bp n cp, .slice bk (4 * n + 6) ck, .slice bz (7 * n + 3) cz] 57 (0, 0)))) => ho.2.1.kind ⟨_, HSh.out _ (HO3.out.trans HO3y.out), rfl⟩
 have HRR : Hid (∀ wz, (Old w wz /\ OldT 57 wy wz /\ wz.heap[sb]? = some (.cells #[.slice ba n ca, .slice bb n cb, .slice bp n cp, .slice bk (4 * n + 6) ck, .slice bz (7 * n + 3) cz] 57 (0, 0))) -> ∀ c : Array Value, c.size = 5 -> Old w (wz.setRow (gb + 1 + 1) c) /\ OldT 57 wy (wz.setRow (gb + 1 + 1) c) /\ (wz.setRow (gb + 1 + 1) c).heap[sb]? = some (.cells #[.slice ba n ca, .slice bb n cb, .slice bp n cp, .slice bk (4 * n + 6) ck, .slice bz (7 * n + 3) cz] 57 (0, 0))) := fun wz ho c hc => ⟨ho.1.setRow HG0w.out _, (by
  obtain ⟨cs, hcs, hs⟩ := HSk.out _ ho
  exact ho.2.1.trans (.setRow hcs (hc.trans hs.symm))), (by
  have hne := Hne.out
  simp only [World.setRow]
  rw [Array.getElem?_modify, if_neg hne]
  exact ho.2.2)⟩
 have HW00 := hid ((HW0.out.trans HO3.out).trans HO3y.out)
 refine zfm (Rl := OldT 57) 5 [.k (.slice bm n cm), .k (.agg #[.slice ba n ca, .slice bb n cb, .slice bp n cp, .slice bk (4 * n + 6) ck, .slice bz (7 * n + 3) cz]), .k (.slice bm n cm), rowE 57 (gb + 1 + 1) #[.slice ba n ca, .slice bb n cb, .slice bp n cp, .slice bk (4 * n + 6) ck, .slice bz (7 * n + 3) cz], .k (.bool true)] (fun wz => Old w wz /\ OldT 57 wy wz /\ wz.heap[sb]? = some (.cells #[.slice ba n ca, .slice bb n cb, .slice bp n cp, .slice bk (4 * n + 6) ck, .slice bz (7 * n + 3) cz] 57 (0, 0))) (by kernel_rfl) (by kernel_rfl) rfl (by kernel_rfl) (⟨HW00.out.drew, OldT.of (Old.refl _).drew, HRy.out⟩) ?st ?_
 case st =>
  refine .c stpy <| .c (stsy U57 (fun wz ho => ho.2.2)) <| .c stpy <| .c (stQy (n := 5) (fun wz ho => HRR.out wz ho _ rfl) (fun wz ho => HSk.out wz ho)) <| .c stpy .n
 intro t wx_1 hR hk
 simp only [fill2, Ent2.val, rowE, Ls0, Ls1, Ld1, Ld0, Ldn]
 have HRz := hid (hk 3 (by omega))
 have hOx : OldT 57 wy wx_1 := hR.2.1
 have HG : Hid (GivS w true n M A B Pp (4 * n + 6) K (7 * n + 3) Zf (.returned (.tuple #[.slice bm n cm, .agg #[.slice ba n ca, .slice bb n cb, .slice bp n cp, .slice bk (4 * n + 6) ck, .slice bz (7 * n + 3) cz], .bool true])) wx_1) :=
  ⟨hR.1, _, _, _, _, _, _, _, rfl, (HB3.out.old HO3y.out).oldT (by decide) hOx, (HNa3.out.old HO3y.out).oldT (by decide) hOx, (HNby.out.oldT (by decide) hOx).mono H5s.out, (HNpy.out.oldT (by decide) hOx).mono H9s.out, (HNky.out.oldT (by decide) hOx).mono Hwf.out, (HNzy.out.oldT (by decide) hOx).mono Hwf.out⟩
 clear hR hk hOx
 go_wp2_with fail
 exact bodyPost_ret (zfs (b := gb + 1 + 1) rfl rfl rfl rfl (run_loadVar_row _ _ _ _ _ (0, 0) _ HRz.out U57 rfl zaU)) rfl HG.out
theorem rpro_no (P Q G H : Int) (a : OA) (m cap : Nat) (label : List Int) (y : Int) (bi : OA) (l ci : Nat) (C : NN) (bo : OA) (no co : Nat) (O : NI) (bρ : OA) (nρ cρ : Nat) (Rh : NN) (bR : OA) (nR cR : Nat) (bS : OA) (nS cS : Nat) (bT : OA) (nT cT : Nat) (bD : OA) (nD cD : Nat) (M : NN) (A B Pp : NI) (nt : Nat) (K : NI) (nz : Nat) (Zf : NI) (w : World) (h4 : Four P Q G H) (hr : Righ P Q G) (hy : U64 y) (ml : l <= 80) (mo : no <= 80) (mρ : nρ <= 80) (hC : BoxsIn w bi l C) (hO : IntsIn w bo no O) (hρ : RhoIn w bρ nρ Rh) (hok : (mixB P Q y l C no O nρ && drwB l nR nS nT nD) = false) :
  Calls prog 32 #[gv P Q G H a m cap, .string (strOfNums label), .int .u64 y, .slice bi l ci, .slice bo no co, dv bρ nρ cρ bR nR cR bS nS cS bT nT cT bD nD cD] w (GivS w (mixB P Q y l C no O nρ && drwB l nR nS nT nD) l M A B Pp nt K nz Zf) := by
 have HMx : Hid (∀ wx, Old w wx -> Calls prog 16 #[gv P Q G H a m cap, .int .u64 y, .slice bi l ci, .slice bo no co, .slice bρ nρ cρ] wx fun e w' => Old wx w' /\ ∃ b n c, e = .returned (.tuple #[.slice b n c, .bool (mixB P Q y l C no O nρ)])) := fun wx ho => (rmix8_any P Q G H a m cap y bi l ci C bo no co O bρ nρ cρ Rh wx h4 hr hy (by omega) (by omega) (by omega) (hC.old ho) (hO.old ho) (hρ.old ho)).mono fun e w' h => by
  obtain ⟨k, b, c, he, _⟩ := h
  exact ⟨k, _, _, _, he⟩
 have HNo := hid hok
 have hl8 : mixB P Q y l C no O nρ = true -> l <= 8 := fun h => by
  unfold mixB at h
  simp only [Bool.and_eq_true_iff, decide_eq_true_eq] at h
  exact (zaK.1 h.2.2.2.1).1.2
 have hdb : mixB P Q y l C no O nρ = true -> ¬ (nR = l /\ nS = l /\ nT = l /\ nD = 7 * l + 3) := fun h hc => by
  rw [h, Bool.true_and, zb1.2 hc] at hok
  cases hok
 clear hC hO hρ h4 hr hy hok ml mo mρ
 generalize mixB P Q y l C no O nρ = mb at *
 have HZ := lain3 w (gc P Q G H a m cap) (dvc bρ nρ cρ bR nR cR bS nS cS bT nT cT bD nD cD) #[.slice none 0 0, .slice none 0 0, .slice none 0 0, .slice none 0 0, .slice none 0 0] 25 31 57
 have HG0 := fun w' ho => (HZ.then (W' := w') ho).row 0 (by simp)
 have HD0 := fun w' ho => (HZ.then (W' := w') ho).row 1 (by simp)
 have HS0 := fun w' ho => (HZ.then (W' := w') ho).row 2 (by simp)
 have HW0 := hid HZ.old
 clear HZ
 go_enter func32, ntmps32
 go_upto_region 1 with fail
 generalize ((w.alloc (.cells (gc P Q G H a m cap) 25)).alloc (.cells (dvc bρ nρ cρ bR nR cR bS nS cS bT nT cT bD nD cD) 31)).alloc (.cells #[.slice none 0 0, .slice none 0 0, .slice none 0 0, .slice none 0 0, .slice none 0 0] 57) = W1 at *
 have HG := hid HG0
 have HDd := hid HD0
 have HSh := hid HS0
 clear HG0 HD0 HS0
 obtain ⟨gb, hgb⟩ : ∃ gb, gb = w.heap.size := ⟨_, rfl⟩
 rw [<- hgb] at HG HDd HSh
 rw [<- hgb]
 have HGs : Hid (w.heap.size <= gb + 1 + 1) := by unfold Hid; omega
 clear hgb
 have HGc : Hid (∀ wx, Old W1 wx -> G5 wx (gb) P Q G H (.slice a m cap)) := fun wx ho => g5 (HG.out _ ho)
 have HDc : Hid (∀ wx, Old W1 wx -> wx.cell? ⟨gb + 1, 0, none⟩ = some (.slice bρ nρ cρ) /\ wx.cell? ⟨gb + 1, 1, none⟩ = some (.slice bR nR cR) /\ wx.cell? ⟨gb + 1, 2, none⟩ = some (.slice bS nS cS) /\ wx.cell? ⟨gb + 1, 3, none⟩ = some (.slice bT nT cT) /\ wx.cell? ⟨gb + 1, 4, none⟩ = some (.slice bD nD cD)) := fun wx ho => g5 (HDd.out _ ho)
 have HSc : Hid (∀ wx, Old W1 wx -> (wx.cell? ⟨gb + 1 + 1, 0, none⟩ = some (.slice none 0 0) /\ wx.cell? ⟨gb + 1 + 1, 1, none⟩ = some (.slice none 0 0) /\ wx.cell? ⟨gb + 1 + 1, 2, none⟩ = some (.slice none 0 0) /\ wx.cell? ⟨gb + 1 + 1, 3, none⟩ = some (.slice none 0 0) /\ wx.cell? ⟨gb + 1 + 1, 4, none⟩ = some (.slice none 0 0)) /\ ∀ j, wx.frozen? ⟨gb + 1 + 1, j, none⟩ = false) := fun wx ho => ⟨g5 (HSh.out _ ho), fun j => zac (HSh.out _ ho) j⟩
 obtain ⟨g0, g1, g2, g3, g4⟩ := HGc.out _ (Old.refl _)
 obtain ⟨d0, d1, d2, d3, d4⟩ := HDc.out _ (Old.refl _)
 go_upto_region 2 with (go_at_call 16; refine (HMx.out _ HW0.out).mono ?_; rintro e w2 ⟨o2, bm, nm, cm, rfl⟩)
 clear g0 g1 g2 g3 g4 d0 d1 d2 d3 d4 HMx
 have HO2 := hid o2
 clear o2
 obtain ⟨d0, d1, d2, d3, d4⟩ := HDc.out _ HO2.out
 cases mb with
 | false =>
  clear hl8 hdb
  go_upto_region 4 with fail
  clear d0 d1 d2 d3 d4
  obtain ⟨⟨s0, s1, s2, s3, s4⟩, hf⟩ := HSc.out _ HO2.out
  have f0 := hf 0
  have f1 := hf 1
  have f2 := hf 2
  have f3 := hf 3
  have f4 := hf 4
  clear hf
  go_wp2_with fail
  exact bodyPost_ret (zfs (b := gb + 1 + 1) rfl rfl rfl rfl (zfE (HSh.out _ HO2.out) U57 zaU)) rfl (zcR HNo.out ((HW0.out.trans HO2.out).five HGs.out _ _ _ _ _))
 | true =>
  have h8 := hl8 rfl
  have hd := hdb rfl
  clear hl8 hdb
  have e1 : IntKind.i64.wrap (7 * (l : Int)) = 7 * (l : Int) := by rw [IntKind.wrap_i64]; omega
  have e2 : IntKind.i64.wrap (7 * (l : Int) + 3) = 7 * (l : Int) + 3 := by rw [IntKind.wrap_i64]; omega
  by_cases c0 : nR = l
  rotate_left
  ·have k0 : ¬ (nR : Int) = (l : Int) := by omega
   clear hd
   go_upto_region 4 with fail
   clear d0 d1 d2 d3 d4
   obtain ⟨⟨s0, s1, s2, s3, s4⟩, hf⟩ := HSc.out _ HO2.out
   have f0 := hf 0
   have f1 := hf 1
   have f2 := hf 2
   have f3 := hf 3
   have f4 := hf 4
   clear hf
   go_wp2_with fail
   exact bodyPost_ret (zfs (b := gb + 1 + 1) rfl rfl rfl rfl (zfE (HSh.out _ HO2.out) U57 zaU)) rfl (zcR HNo.out ((HW0.out.trans HO2.out).five HGs.out _ _ _ _ _))
  have k0 : (nR : Int) = (l : Int) := by omega
  by_cases c1 : nS = l
  rotate_left
  ·have k1 : ¬ (nS : Int) = (l : Int) := by omega
   clear hd
   go_upto_region 4 with fail
   clear d0 d1 d2 d3 d4
   obtain ⟨⟨s0, s1, s2, s3, s4⟩, hf⟩ := HSc.out _ HO2.out
   have f0 := hf 0
   have f1 := hf 1
   have f2 := hf 2
   have f3 := hf 3
   have f4 := hf 4
   clear hf
   go_wp2_with fail
   exact bodyPost_ret (zfs (b := gb + 1 + 1) rfl rfl rfl rfl (zfE (HSh.out _ HO2.out) U57 zaU)) rfl (zcR HNo.out ((HW0.out.trans HO2.out).five HGs.out _ _ _ _ _))
  have k1 : (nS : Int) = (l : Int) := by omega
  by_cases c2 : nT = l
  rotate_left
  ·have k2 : ¬ (nT : Int) = (l : Int) := by omega
   clear hd
   go_upto_region 4 with fail
   clear d0 d1 d2 d3 d4
   obtain ⟨⟨s0, s1, s2, s3, s4⟩, hf⟩ := HSc.out _ HO2.out
   have f0 := hf 0
   have f1 := hf 1
   have f2 := hf 2
   have f3 := hf 3
   have f4 := hf 4
   clear hf
   go_wp2_with fail
   exact bodyPost_ret (zfs (b := gb + 1 + 1) rfl rfl rfl rfl (zfE (HSh.out _ HO2.out) U57 zaU)) rfl (zcR HNo.out ((HW0.out.trans HO2.out).five HGs.out _ _ _ _ _))
  have k2 : (nT : Int) = (l : Int) := by omega
  have k3 : ¬ (nD : Int) = 7 * (l : Int) + 3 := by
   have : ¬ nD = 7 * l + 3 := fun h => hd ⟨c0, c1, c2, h⟩
   omega
  clear hd c0 c1 c2
  go_upto_region 4 with fail
  clear d0 d1 d2 d3 d4
  obtain ⟨⟨s0, s1, s2, s3, s4⟩, hf⟩ := HSc.out _ HO2.out
  have f0 := hf 0
  have f1 := hf 1
  have f2 := hf 2
  have f3 := hf 3
  have f4 := hf 4
  clear hf
  go_wp2_with fail
  exact bodyPost_ret (zfs (b := gb + 1 + 1) rfl rfl rfl rfl (zfE (HSh.out _ HO2.out) U57 zaU)) rfl (zcR HNo.out ((HW0.out.trans HO2.out).five HGs.out _ _ _ _ _))
theorem zeA (P Q G H : Int) (a : OA) (m cap : Nat) (label : List Int) (y : Int) (bi : OA) (l ci : Nat) (C : NN) (bo : OA) (no co : Nat) (O : NI) (bρ : OA) (nρ cρ : Nat) (Rh : NN) (bR : OA) (nR cR : Nat) (R : NI) (bS : OA) (nS cS : Nat) (S : NI) (bT : OA) (nT cT : Nat) (T : NI) (bD : OA) (nD cD : Nat) (D : NI) (w : World) (h4 : Four P Q G H) (hr : Righ P Q G) (hin : inI P Q H = true) (hy : U64 y) (hlb : Bts label) (hll : label.length <= 1000) (ml : l <= 80) (mo : no <= 80) (mρ : nρ <= 80) (hcT : nT <= cT /\ cT <= 9223372036854775807) (hcD : nD <= cD)
  (hC : BoxsIn w bi l C) (hO : IntsIn w bo no O) (hρ : RhoIn w bρ nρ Rh) (hR : FacsIn w bR nR R) (hS : FacsIn w bS nS S) (hT : FacsIn w bT nT T) (hD : FacsIn w bD nD D) :
  Calls prog 32 #[gv P Q G H a m cap, .string (strOfNums label), .int .u64 y, .slice bi l ci, .slice bo no co, dv bρ nρ cρ bR nR cR bS nS cS bT nT cT bD nD cD] w (GivS w (mixB P Q y l C no O nρ && drwB l nR nS nT nD) l (mixC P Q G y C O Rh) (aF P Q G H O R) (mxB P Q G H label y l C O Rh R S) (mxP P Q G H label y l C O Rh R S T) (4 * l + 6) (mxK P Q G H label y l C O Rh R S T D) (7 * l + 3) (mxZ P Q G H label y l C O Rh R S T D)) := by
 cases hok : (mixB P Q y l C no O nρ && drwB l nR nS nT nD) with
 | false =>
  rw [<- hok]
  exact rpro_no P Q G H a m cap label y bi l ci C bo no co O bρ nρ cρ Rh bR nR cR bS nS cS bT nT cT bD nD cD _ _ _ _ _ _ _ _ w h4 hr hy ml mo mρ hC hO hρ hok
 | true =>
  obtain ⟨hm, hd⟩ := Bool.and_eq_true_iff.1 hok
  obtain ⟨e1, e2, e3, e4⟩ := zb1.1 hd
  have hm' := hm
  unfold mixB at hm'
  simp only [Bool.and_eq_true_iff, decide_eq_true_eq] at hm'
  obtain ⟨e5, e6, h3, h5, h6⟩ := hm'
  have hor := (zfX.1 hm).2.2.1
  subst e1 e2 e3 e5 e6
  have M := mix8_of hr hin hm hρ hR hS hT
  have uY : U64 (mxC 121 P Q G H label y nρ C O Rh R S) := by unfold mxC chYZ; exact zat _ _ _ _
  have uZ : U64 (mxC 122 P Q G H label y nρ C O Rh R S) := by unfold mxC chYZ; exact zat _ _ _ _
  have hsz := (M.claim (mxX P Q G H label y nρ C O Rh R) uY.1 uZ.1).size
  exact rpro_any P Q G H a m cap label y bi ci C bo co O bρ cρ Rh bR cR R bS cS S bT cT T bD nD cD D nρ (mxX P Q G H label y nρ C O Rh R) (mxC 121 P Q G H label y nρ C O Rh R S) (mxC 122 P Q G H label y nρ C O Rh R S) (aF P Q G H O R) (mxB P Q G H label y nρ C O Rh R S) (mxP P Q G H label y nρ C O Rh R S T) (mixC P Q G y C O Rh) (mxE P Q G H label y nρ C O Rh R S T) (mxK P Q G H label y nρ C O Rh R S T D) (mxZ P Q G H label y nρ C O Rh R S T D) w M.n1 M.n8 h4 hr hy hlb hll hcT hcD hC hO hρ hR hS hT hD hm hd hor rfl rfl rfl rfl rfl rfl rfl rfl (congrArg (fun z => fun j => imI P Q (mxS P Q G H label y nρ C O Rh R S T j) D z) hsz.symm) rfl (M.clm _ uY.1 uZ.1) (M.prov _ uY.1 uZ.1 e4)
theorem GivS.any {w w' : World} {ok : Bool} {n nt nz : Nat} {M : NN} {A B Pp K Z : NI} {r : Ending} (h : GivS w ok n M A B Pp nt K nz Z r w') (hA : ∀ i, U64 (A i)) (hB : ∀ i, U64 (B i)) (hP : ∀ i, U64 (Pp i)) (hK : ∀ i, U64 (K i)) (hZ : ∀ i, U64 (Z i)) :
  ∃ bm cm ba ca bb cb bp cp bk ck bz cz, r = .returned (.tuple #[.slice bm (if ok then n else 0) cm, .agg #[.slice ba (if ok then n else 0) ca, .slice bb (if ok then n else 0) cb, .slice bp (if ok then n else 0) cp, .slice bk (if ok then nt else 0) ck, .slice bz (if ok then nz else 0) cz], .bool ok]) /\ Old w w' /\ BoxF w' bm (if ok then n else 0) M /\ (((if ok then n else 0) <= ca /\ ca <= 9223372036854775807) /\ FacsIn w' ba (if ok then n else 0) A) /\ (((if ok then n else 0) <= cb /\ cb <= 9223372036854775807) /\ FacsIn w' bb (if ok then n else 0) B) /\ FacsIn w' bp (if ok then n else 0) Pp /\ FacsIn w' bk (if ok then nt else 0) K /\ FacsIn w' bz (if ok then nz else 0) Z := by
 obtain ⟨ho, bm, cm, va, vb, vp, vk, vz, rfl, hm, h1, h2, h3, h4, h5⟩ := h
 obtain ⟨ba, ca, rfl, a1, a2, a3⟩ := h1.facs2 fun i _ => hA i
 obtain ⟨bb, cb, rfl, b1, b2, b3⟩ := h2.facs2 fun i _ => hB i
 obtain ⟨bp, cp, rfl, _, _, p3⟩ := h3.facs2 fun i _ => hP i
 obtain ⟨bk, ck, rfl, _, _, k3⟩ := h4.facs2 fun i _ => hK i
 obtain ⟨bz, cz, rfl, _, _, z3⟩ := h5.facs2 fun i _ => hZ i
 exact ⟨bm, cm, ba, ca, bb, cb, bp, cp, bk, ck, bz, cz, rfl, ho, hm, ⟨⟨a1, a2⟩, a3⟩, ⟨⟨b1, b2⟩, b3⟩, p3, k3, z3⟩
theorem law8_proves (P Q G H : Int) (a : OA) (m cap : Nat) (N A : NI) (FA : Nat -> Option Addr) (RL RC : Nat -> Nat) (RF : NN) (label : List Int) (y : Int) (bi : OA) (l ci : Nat) (C : NN) (bo : OA) (no co : Nat) (O : NI) (bρ : OA) (nρ cρ : Nat) (Rh : NN) (bR : OA) (nR cR : Nat) (R : NI) (bS : OA) (nS cS : Nat) (S : NI) (bT : OA) (nT cT : Nat) (T : NI) (bD : OA) (nD cD : Nat) (D : NI) (w : World) (h4 : Four P Q G H) (_hcap : m <= cap) (hin : RowsIn w a m N A FA RL RC RF) (hlb : Bts label) (hy : U64 y) (hC : BoxsIn w bi l C) (hO : IntsIn w bo no O) (hρ : RhoIn w bρ nρ Rh) (hR : FacsIn w bR nR R) (hS : FacsIn w bS nS S) (hcT : nT <= cT /\ cT <= 9223372036854775807) (hT : FacsIn w bT nT T) (hcD : nD <= cD /\ cD <= 9223372036854775807) (hD : FacsIn w bD nD D) :
  Calls prog 6 #[gv P Q G H a m cap, jv label y bi l ci bo no co bρ nρ cρ bR nR cR bS nS cS bT nT cT bD nD cD] w (Ret w (.bool true)) := by
 have HA : Hid (∀ wx, Calls prog 12 #[] wx (Ret wx (.bool true))) := fun wx => awake8_any wx
 have HU := hid fun wx (ho : Old w wx) => group5_any P Q G H a m cap N A FA RL RC RF wx h4 (hin.old ho)
 have HL : Hid (∀ wx, Calls prog 14 #[jv label y bi l ci bo no co bρ nρ cρ bR nR cR bS nS cS bT nT cT bD nD cD] wx (Ret wx (.bool (fewJ label.length l no nρ nR nS nT nD)))) := fun wx => few8_any label y bi l ci bo no co bρ nρ cρ bR nR cR bS nS cS bT nT cT bD nD cD wx
 have ha := hin.a0
 have HZ := lain2 w (gc P Q G H a m cap) (jvc label y bi l ci bo no co bρ nρ cρ bR nR cR bS nS cS bT nT cT bD nD cD) 25 33
 have HG0 := fun w' ho => (HZ.then (W' := w') ho).row 0 (by simp)
 have HJ0 := fun w' ho => (HZ.then (W' := w') ho).row 1 (by simp)
 have HW0 := hid HZ.old
 clear HZ hin
 go_enter func6, ntmps6
 go_upto_region 1 with fail
 generalize ((w.alloc (.cells (gc P Q G H a m cap) 25)).alloc (.cells (jvc label y bi l ci bo no co bρ nρ cρ bR nR cR bS nS cS bT nT cT bD nD cD) 33)) = W at *
 have HG := hid HG0
 have HJ := hid HJ0
 clear HG0 HJ0
 obtain ⟨gb, hgb⟩ : ∃ gb, gb = w.heap.size := ⟨_, rfl⟩
 rw [<- hgb] at HG HJ
 rw [<- hgb]
 clear hgb
 have HGc : Hid (∀ wx, Old W wx -> G5 wx (gb) P Q G H (.slice a m cap)) := fun wx ho => g5 (HG.out _ ho)
 have HJc : Hid (∀ wx, Old W wx -> wx.cell? ⟨gb + 1, 0, none⟩ = some (.string (strOfNums label)) /\ wx.cell? ⟨gb + 1, 1, none⟩ = some (.int .u64 y) /\ wx.cell? ⟨gb + 1, 2, none⟩ = some (.slice bi l ci) /\ wx.cell? ⟨gb + 1, 3, none⟩ = some (.slice bo no co) /\ wx.cell? ⟨gb + 1, 4, none⟩ = some (.slice bρ nρ cρ) /\ wx.cell? ⟨gb + 1, 5, none⟩ = some (.slice bR nR cR) /\ wx.cell? ⟨gb + 1, 6, none⟩ = some (.slice bS nS cS) /\ wx.cell? ⟨gb + 1, 7, none⟩ = some (.slice bT nT cT) /\ wx.cell? ⟨gb + 1, 8, none⟩ = some (.slice bD nD cD)) := fun wx ho => ⟨Y0 (HJ.out _ ho), Y1 (HJ.out _ ho), Y2 (HJ.out _ ho), Y3 (HJ.out _ ho), Y4 (HJ.out _ ho), Y5 (HJ.out _ ho), cell_of_row _ _ 6 _ _ (0, 0) (HJ.out _ ho), cell_of_row _ _ 7 _ _ (0, 0) (HJ.out _ ho), cell_of_row _ _ 8 _ _ (0, 0) (HJ.out _ ho)⟩
 go_upto_region 3 with (go_at_call 12; refine (HA.out _).mono ?_; rintro e w1 ⟨rfl, h1⟩)
 have HO1 := hid h1
 clear h1 HA
 obtain ⟨g0, g1, g2, g3, g4⟩ := HGc.out _ HO1.out
 cases hg : (fewB RL m && zcc P Q G H N A RF RL m)
 ·rw [hg] at HU
  clear hg ha h4 hC hO hρ hR hS hT hD
  go_wp2_with (go_at_call 13; refine (HU.out _ (HW0.out.trans HO1.out)).mono ?_; rintro e w3 ⟨rfl, o3⟩)
  go_ret
  exact ⟨rfl, (HW0.out.trans HO1.out).trans o3⟩
 have hg' := (Bool.and_eq_true_iff.1 hg).2
 have hr := zff ha hg'
 have hh := right_h hg'
 rw [hg] at HU
 clear hg hg' ha
 cases hf : fewJ label.length l no nρ nR nS nT nD
 ·rw [hf] at HL
  clear hf h4 hC hO hρ hR hS hT hD hr
  go_wp2_with (first
   | (go_at_call 13; refine (HU.out _ (HW0.out.trans HO1.out)).mono ?_; rintro e w3 ⟨rfl, o3⟩; obtain ⟨j0, j1, j2, j3, j4, j5, j6, j7, j8⟩ := HJc.out _ (HO1.out.trans o3))
   | (go_at_call 14; refine (HL.out _).mono ?_; rintro e w4 ⟨rfl, o4⟩))
  go_ret
  exact ⟨rfl, ((HW0.out.trans HO1.out).trans o3).trans o4⟩
 rw [hf] at HL
 obtain ⟨⟨hll, ml, mo⟩, mρ, mR, mS, mT, mD⟩ := fewJ_iff.1 hf
 clear hf
 cases hm : (mixB P Q y l C no O nρ && drwB l nR nS nT nD) with
 | false =>
  have hu : (∀ i, U64 (aF P Q G H O R i)) /\ (∀ i, U64 ((mxB P Q G H label y l C O Rh R S) i)) /\ (∀ i, U64 ((mxP P Q G H label y l C O Rh R S T) i)) /\ (∀ i, U64 ((mxK P Q G H label y l C O Rh R S T D) i)) /\ (∀ i, U64 ((mxZ P Q G H label y l C O Rh R S T D) i)) := ⟨fun i => zaQ _ _ _ _ _ _, fun i => zaQ _ _ _ _ _ _, fun i => zfN _ _ _ _ _ _ _ _ _ _ _ i, fun i => zaL _ _ _, fun i => zeH _ _ _ _⟩
  have hsp := fun wx (ho : Old w wx) => zdD P Q G H a m cap label y bi l ci C bo no co O bρ nρ cρ Rh bR nR cR R bS nS cS S bT nT cT T bD nD cD D wx h4 hr hh hy hlb (by omega) (by omega) (by omega) (by omega) hcT hcD.1 (hC.old ho) (hO.old ho) (hρ.old ho) (hR.old ho) (hS.old ho) (hT.old ho) (hD.old ho)
  have hrp := fun wx (ho : Old w wx) => zeA P Q G H a m cap label y bi l ci C bo no co O bρ nρ cρ Rh bR nR cR R bS nS cS S bT nT cT T bD nD cD D wx h4 hr hh hy hlb (by omega) (by omega) (by omega) (by omega) hcT hcD.1 (hC.old ho) (hO.old ho) (hρ.old ho) (hR.old ho) (hS.old ho) (hT.old ho) (hD.old ho)
  rw [hm] at hsp hrp
  have hl80 : l <= 80 := by omega
  clear hm h4 hC hO hρ hR hS hT hD hr hy hh
  generalize (mixC P Q G y C O Rh) = M at *
  generalize (aF P Q G H O R) = A8 at *
  generalize (mxB P Q G H label y l C O Rh R S) = B8 at *
  generalize (mxP P Q G H label y l C O Rh R S T) = P8 at *
  generalize (mxK P Q G H label y l C O Rh R S T D) = K8 at *
  generalize (mxZ P Q G H label y l C O Rh R S T D) = Z8 at *
  have HSp := hid fun wx (ho : Old w wx) => (hsp wx ho).mono fun e w' h => h.any hu.1 hu.2.1 hu.2.2.1 hu.2.2.2.1 hu.2.2.2.2
  have HRp := hid fun wx (ho : Old w wx) => (hrp wx ho).mono fun e w' h => h.any hu.1 hu.2.1 hu.2.2.1 hu.2.2.2.1 hu.2.2.2.2
  have HSa : Hid (∀ wx b c b' c', BoxF wx b 0 M -> BoxF wx b' 0 M -> Calls prog 17 #[.slice b 0 c, .slice b' 0 c'] wx (Ret wx (.bool true))) := fun wx b c b' c' h1 h2 => by
   have h := zfa b 0 c M b' 0 c' M wx (by omega) h1.boxs h2.boxs
   rw [zfZ.2 ⟨rfl, fun _ _ _ _ => rfl⟩] at h
   exact h
  clear hsp hrp hu hcT hcD
  go_upto_region 5 with (first
   | (go_at_call 13; refine (HU.out _ (HW0.out.trans HO1.out)).mono ?_; rintro e w3 ⟨rfl, o3⟩; obtain ⟨j0, j1, j2, j3, j4, j5, j6, j7, j8⟩ := HJc.out _ (HO1.out.trans o3))
   | (go_at_call 14; refine (HL.out _).mono ?_; rintro e w4 ⟨rfl, o4⟩))
  have HO4 := hid ((HO1.out.trans o3).trans o4)
  clear o3 o4 HU HL HO1 g0 g1 g2 g3 g4 j0 j1 j2 j3 j4 j5 j6 j7 j8
  obtain ⟨g0, g1, g2, g3, g4⟩ := HGc.out _ HO4.out
  obtain ⟨j0, j1, j2, j3, j4, j5, j6, j7, j8⟩ := HJc.out _ HO4.out
  go_upto_region 6 with (go_at_call 31; refine (HSp.out _ (HW0.out.trans HO4.out)).mono ?_; rintro e w5 ⟨bm, cm, ba, ca, bb, cb, bp, cp, bk, ck, bz, cz, rfl, o5, hbm, hfa, hfb, hfp, hfk, hfz⟩)
  clear g0 g1 g2 g3 g4 j0 j1 j2 j3 j4 j5 j6 j7 j8 HSp
  have HO56 : Hid (Old w5 (w5.alloc (.cells #[.slice ba 0 ca, .slice bb 0 cb, .slice bp 0 cp, .slice bk 0 ck, .slice bz 0 cz] 57))) := (Old.refl _).alloc _
  have HO6 := hid ((HO4.out.trans o5).trans HO56.out)
  have HR6 : Hid ((w5.alloc (.cells #[.slice ba 0 ca, .slice bb 0 cb, .slice bp 0 cp, .slice bk 0 ck, .slice bz 0 cz] 57)).heap[w5.heap.size]? = some (.cells #[.slice ba 0 ca, .slice bb 0 cb, .slice bp 0 cp, .slice bk 0 ck, .slice bz 0 cz] 57 (0, 0))) := heap_alloc_last _ _
  have HF6 : Hid (BoxF (w5.alloc (.cells #[.slice ba 0 ca, .slice bb 0 cb, .slice bp 0 cp, .slice bk 0 ck, .slice bz 0 cz] 57)) bm 0 M /\ FacsIn (w5.alloc (.cells #[.slice ba 0 ca, .slice bb 0 cb, .slice bp 0 cp, .slice bk 0 ck, .slice bz 0 cz] 57)) ba 0 A8 /\ FacsIn (w5.alloc (.cells #[.slice ba 0 ca, .slice bb 0 cb, .slice bp 0 cp, .slice bk 0 ck, .slice bz 0 cz] 57)) bb 0 B8 /\ FacsIn (w5.alloc (.cells #[.slice ba 0 ca, .slice bb 0 cb, .slice bp 0 cp, .slice bk 0 ck, .slice bz 0 cz] 57)) bp 0 P8 /\ FacsIn (w5.alloc (.cells #[.slice ba 0 ca, .slice bb 0 cb, .slice bp 0 cp, .slice bk 0 ck, .slice bz 0 cz] 57)) bk 0 K8 /\ FacsIn (w5.alloc (.cells #[.slice ba 0 ca, .slice bb 0 cb, .slice bp 0 cp, .slice bk 0 ck, .slice bz 0 cz] 57)) bz 0 Z8) := ⟨hbm.old HO56.out, hfa.2.old HO56.out, hfb.2.old HO56.out, hfp.old HO56.out, hfk.old HO56.out, hfz.old HO56.out⟩
  have HQ6 : Hid ((0 <= ca /\ ca <= 9223372036854775807) /\ (0 <= cb /\ cb <= 9223372036854775807)) := ⟨hfa.1, hfb.1⟩
  clear o5 hbm hfa hfb hfp hfk hfz HO56
  generalize w5.alloc (.cells #[.slice ba 0 ca, .slice bb 0 cb, .slice bp 0 cp, .slice bk 0 ck, .slice bz 0 cz] 57) = w6 at *
  generalize w5.heap.size = sb1 at *
  obtain ⟨g0, g1, g2, g3, g4⟩ := HGc.out _ HO6.out
  obtain ⟨j0, j1, j2, j3, j4, j5, j6, j7, j8⟩ := HJc.out _ HO6.out
  go_upto_region 7 with (go_at_call 32; refine (HRp.out _ (HW0.out.trans HO6.out)).mono ?_; rintro e w7 ⟨bm', cm', ba', ca', bb', cb', bp', cp', bk', ck', bz', cz', rfl, o7, hbm, hfa, hfb, hfp, hfk, hfz⟩)
  clear g0 g1 g2 g3 g4 j0 j1 j2 j3 j4 j5 j6 j7 j8 HRp
  have HO78 : Hid (Old w7 (w7.alloc (.cells #[.slice ba' 0 ca', .slice bb' 0 cb', .slice bp' 0 cp', .slice bk' 0 ck', .slice bz' 0 cz'] 57))) := (Old.refl _).alloc _
  have HO68 := hid (o7.trans HO78.out)
  have HR8 : Hid ((w7.alloc (.cells #[.slice ba' 0 ca', .slice bb' 0 cb', .slice bp' 0 cp', .slice bk' 0 ck', .slice bz' 0 cz'] 57)).heap[w7.heap.size]? = some (.cells #[.slice ba' 0 ca', .slice bb' 0 cb', .slice bp' 0 cp', .slice bk' 0 ck', .slice bz' 0 cz'] 57 (0, 0))) := heap_alloc_last _ _
  have HF8 : Hid (BoxF (w7.alloc (.cells #[.slice ba' 0 ca', .slice bb' 0 cb', .slice bp' 0 cp', .slice bk' 0 ck', .slice bz' 0 cz'] 57)) bm' 0 M /\ FacsIn (w7.alloc (.cells #[.slice ba' 0 ca', .slice bb' 0 cb', .slice bp' 0 cp', .slice bk' 0 ck', .slice bz' 0 cz'] 57)) ba' 0 A8 /\ FacsIn (w7.alloc (.cells #[.slice ba' 0 ca', .slice bb' 0 cb', .slice bp' 0 cp', .slice bk' 0 ck', .slice bz' 0 cz'] 57)) bb' 0 B8 /\ FacsIn (w7.alloc (.cells #[.slice ba' 0 ca', .slice bb' 0 cb', .slice bp' 0 cp', .slice bk' 0 ck', .slice bz' 0 cz'] 57)) bp' 0 P8 /\ FacsIn (w7.alloc (.cells #[.slice ba' 0 ca', .slice bb' 0 cb', .slice bp' 0 cp', .slice bk' 0 ck', .slice bz' 0 cz'] 57)) bk' 0 K8 /\ FacsIn (w7.alloc (.cells #[.slice ba' 0 ca', .slice bb' 0 cb', .slice bp' 0 cp', .slice bk' 0 ck', .slice bz' 0 cz'] 57)) bz' 0 Z8) := ⟨hbm.old HO78.out, hfa.2.old HO78.out, hfb.2.old HO78.out, hfp.old HO78.out, hfk.old HO78.out, hfz.old HO78.out⟩
  clear o7 hbm hfa hfb hfp hfk hfz HO78
  generalize w7.alloc (.cells #[.slice ba' 0 ca', .slice bb' 0 cb', .slice bp' 0 cp', .slice bk' 0 ck', .slice bz' 0 cz'] 57) = w8 at *
  generalize w7.heap.size = sb2 at *
  have HSs := hid fun wx (ho : Old w8 wx) => HSa.out wx bm cm bm' cm' ((HF6.out.1.old HO68.out).old ho) (HF8.out.1.old ho)
  have HAl : Hid (∀ wx, Old w8 wx -> Calls prog 33 #[.agg #[.slice ba 0 ca, .slice bb 0 cb, .slice bp 0 cp, .slice bk 0 ck, .slice bz 0 cz], .agg #[.slice ba' 0 ca', .slice bb' 0 cb', .slice bp' 0 cp', .slice bk' 0 ck', .slice bz' 0 cz']] wx (Ret wx (.bool true))) := fun wx ho => by
   obtain ⟨_, a1, b1, p1, k1, z1⟩ := HF6.out
   obtain ⟨_, a2, b2, p2, k2, z2⟩ := HF8.out
   have ho6 := HO68.out.trans ho
   exact zgm ba 0 ca ba' ca' A8 bb 0 cb bb' cb' B8 bp 0 cp bp' cp' P8 bk 0 ck bk' ck' K8 bz 0 cz bz' cz' Z8 wx (by omega) (by omega) (by omega) (by omega) (by omega) (a1.old ho6) (a2.old ho) (b1.old ho6) (b2.old ho) (p1.old ho6) (p2.old ho) (k1.old ho6) (k2.old ho) (z1.old ho6) (z2.old ho)
  have HS1 : Hid (∀ wx, Old w8 wx -> wx.cell? ⟨sb1, 0, none⟩ = some (.slice ba 0 ca) /\ wx.cell? ⟨sb1, 1, none⟩ = some (.slice bb 0 cb) /\ wx.cell? ⟨sb1, 2, none⟩ = some (.slice bp 0 cp) /\ wx.cell? ⟨sb1, 3, none⟩ = some (.slice bk 0 ck) /\ wx.cell? ⟨sb1, 4, none⟩ = some (.slice bz 0 cz)) := fun wx ho => by
   have h := (ho.block _ (zag ((HO68.out.block _ (zag HR6.out)).trans HR6.out))).trans ((HO68.out.block _ (zag HR6.out)).trans HR6.out)
   exact g5 h
  have HS2 : Hid (∀ wx, Old w8 wx -> wx.cell? ⟨sb2, 0, none⟩ = some (.slice ba' 0 ca') /\ wx.cell? ⟨sb2, 1, none⟩ = some (.slice bb' 0 cb') /\ wx.cell? ⟨sb2, 2, none⟩ = some (.slice bp' 0 cp') /\ wx.cell? ⟨sb2, 3, none⟩ = some (.slice bk' 0 ck') /\ wx.cell? ⟨sb2, 4, none⟩ = some (.slice bz' 0 cz')) := fun wx ho => by
   have h := (ho.block _ (zag HR8.out)).trans HR8.out
   exact g5 h
  clear HSa
  go_upto_region 9 with (first
   | (go_at_call 17; refine (HSs.out _ (Old.refl _)).mono ?_; rintro e w9 ⟨rfl, o9⟩; obtain ⟨s0, s1, s2, s3, s4⟩ := HS1.out _ o9; obtain ⟨t0, t1, t2, t3, t4⟩ := HS2.out _ o9)
   | (go_at_call 33; refine (HAl.out _ o9).mono ?_; rintro e wa ⟨rfl, oa⟩))
  clear s0 s1 s2 s3 s4 t0 t1 t2 t3 t4 HSs HAl HS2
  have HO8a := hid (o9.trans oa)
  have HOa := hid ((HO6.out.trans HO68.out).trans HO8a.out)
  clear o9 oa
  go_wp2_with fail
  go_ret
  exact ⟨rfl, HW0.out.trans HOa.out⟩
 | true =>
  have hu : (∀ i, U64 (aF P Q G H O R i)) /\ (∀ i, U64 ((mxB P Q G H label y l C O Rh R S) i)) /\ (∀ i, U64 ((mxP P Q G H label y l C O Rh R S T) i)) /\ (∀ i, U64 ((mxK P Q G H label y l C O Rh R S T D) i)) /\ (∀ i, U64 ((mxZ P Q G H label y l C O Rh R S T D) i)) := ⟨fun i => zaQ _ _ _ _ _ _, fun i => zaQ _ _ _ _ _ _, fun i => zfN _ _ _ _ _ _ _ _ _ _ _ i, fun i => zaL _ _ _, fun i => zeH _ _ _ _⟩
  have hsp := fun wx (ho : Old w wx) => zdD P Q G H a m cap label y bi l ci C bo no co O bρ nρ cρ Rh bR nR cR R bS nS cS S bT nT cT T bD nD cD D wx h4 hr hh hy hlb (by omega) (by omega) (by omega) (by omega) hcT hcD.1 (hC.old ho) (hO.old ho) (hρ.old ho) (hR.old ho) (hS.old ho) (hT.old ho) (hD.old ho)
  have hrp := fun wx (ho : Old w wx) => zeA P Q G H a m cap label y bi l ci C bo no co O bρ nρ cρ Rh bR nR cR R bS nS cS S bT nT cT T bD nD cD D wx h4 hr hh hy hlb (by omega) (by omega) (by omega) (by omega) hcT hcD.1 (hC.old ho) (hO.old ho) (hρ.old ho) (hR.old ho) (hS.old ho) (hT.old ho) (hD.old ho)
  rw [hm] at hsp hrp
  have HAcc : Hid (∀ wx bm cm ba ca bb cb bp cp bk ck bz cz, Old w wx -> BoxsIn wx bm l (mixC P Q G y C O Rh) -> (l <= ca /\ ca <= 9223372036854775807) -> (l <= cb /\ cb <= 9223372036854775807) -> FacsIn wx ba l (aF P Q G H O R) -> FacsIn wx bb l (mxB P Q G H label y l C O Rh R S) -> FacsIn wx bp l (mxP P Q G H label y l C O Rh R S T) -> FacsIn wx bk (4 * l + 6) (mxK P Q G H label y l C O Rh R S T D) -> FacsIn wx bz (7 * l + 3) (mxZ P Q G H label y l C O Rh R S T D) -> Calls prog 34 #[gv P Q G H a m cap, .string (strOfNums label), .int .u64 y, .slice bi l ci, .slice bm l cm, .agg #[.slice ba l ca, .slice bb l cb, .slice bp l cp, .slice bk (4 * l + 6) ck, .slice bz (7 * l + 3) cz]] wx (Ret wx (.bool true))) := fun wx bm cm ba ca bb cb bp cp bk ck bz cz ho hb qa qb h1 h2 h3 hk hz => by
   obtain ⟨hmx, hdr⟩ := Bool.and_eq_true_iff.1 hm
   obtain ⟨e1, e2, e3, e4⟩ := zb1.1 hdr
   obtain ⟨f1, f2, f3, f4, f5⟩ := zfX.1 hmx
   have h8 : l <= 8 := (zaK.1 f1).1.2
   subst e1 e2 e3
   have M8 := mix8_of hr hh hmx hρ hR hS hT
   have h := zgb P Q G H a m cap label y bi nT ci C bm nT cm (mixC P Q G y C O Rh) ba nT ca (aF P Q G H O R) bb nT cb (mxB P Q G H label y nT C O Rh R S) bp nT cp (mxP P Q G H label y nT C O Rh R S T) bk (4 * nT + 6) ck (mxK P Q G H label y nT C O Rh R S T D) bz (7 * nT + 3) cz (mxZ P Q G H label y nT C O Rh R S T D) wx
   have h := h h4 hr hy hlb (by omega) (by omega) qa qb (by omega) (hC.old ho) hb h1 h2 h3 hk hz
   rwa [M8.accG label (fun k hk => (hD.u64 k (by omega)).1)] at h
  have hl80 : l <= 80 := by omega
  clear hm h4 hC hO hρ hR hS hT hD hr hy hh
  generalize (mixC P Q G y C O Rh) = M at *
  generalize (aF P Q G H O R) = A8 at *
  generalize (mxB P Q G H label y l C O Rh R S) = B8 at *
  generalize (mxP P Q G H label y l C O Rh R S T) = P8 at *
  generalize (mxK P Q G H label y l C O Rh R S T D) = K8 at *
  generalize (mxZ P Q G H label y l C O Rh R S T D) = Z8 at *
  have HSp := hid fun wx (ho : Old w wx) => (hsp wx ho).mono fun e w' h => h.any hu.1 hu.2.1 hu.2.2.1 hu.2.2.2.1 hu.2.2.2.2
  have HRp := hid fun wx (ho : Old w wx) => (hrp wx ho).mono fun e w' h => h.any hu.1 hu.2.1 hu.2.2.1 hu.2.2.2.1 hu.2.2.2.2
  have HSa : Hid (∀ wx b c b' c', BoxF wx b l M -> BoxF wx b' l M -> Calls prog 17 #[.slice b l c, .slice b' l c'] wx (Ret wx (.bool true))) := fun wx b c b' c' h1 h2 => by
   have h := zfa b l c M b' l c' M wx (by omega) h1.boxs h2.boxs
   rw [zfZ.2 ⟨rfl, fun _ _ _ _ => rfl⟩] at h
   exact h
  clear hsp hrp hu hcT hcD
  go_upto_region 5 with (first
   | (go_at_call 13; refine (HU.out _ (HW0.out.trans HO1.out)).mono ?_; rintro e w3 ⟨rfl, o3⟩; obtain ⟨j0, j1, j2, j3, j4, j5, j6, j7, j8⟩ := HJc.out _ (HO1.out.trans o3))
   | (go_at_call 14; refine (HL.out _).mono ?_; rintro e w4 ⟨rfl, o4⟩))
  have HO4 := hid ((HO1.out.trans o3).trans o4)
  clear o3 o4 HU HL HO1 g0 g1 g2 g3 g4 j0 j1 j2 j3 j4 j5 j6 j7 j8
  obtain ⟨g0, g1, g2, g3, g4⟩ := HGc.out _ HO4.out
  obtain ⟨j0, j1, j2, j3, j4, j5, j6, j7, j8⟩ := HJc.out _ HO4.out
  go_upto_region 6 with (go_at_call 31; refine (HSp.out _ (HW0.out.trans HO4.out)).mono ?_; rintro e w5 ⟨bm, cm, ba, ca, bb, cb, bp, cp, bk, ck, bz, cz, rfl, o5, hbm, hfa, hfb, hfp, hfk, hfz⟩)
  clear g0 g1 g2 g3 g4 j0 j1 j2 j3 j4 j5 j6 j7 j8 HSp
  have HO56 : Hid (Old w5 (w5.alloc (.cells #[.slice ba l ca, .slice bb l cb, .slice bp l cp, .slice bk (4 * l + 6) ck, .slice bz (7 * l + 3) cz] 57))) := (Old.refl _).alloc _
  have HO6 := hid ((HO4.out.trans o5).trans HO56.out)
  have HR6 : Hid ((w5.alloc (.cells #[.slice ba l ca, .slice bb l cb, .slice bp l cp, .slice bk (4 * l + 6) ck, .slice bz (7 * l + 3) cz] 57)).heap[w5.heap.size]? = some (.cells #[.slice ba l ca, .slice bb l cb, .slice bp l cp, .slice bk (4 * l + 6) ck, .slice bz (7 * l + 3) cz] 57 (0, 0))) := heap_alloc_last _ _
  have HF6 : Hid (BoxF (w5.alloc (.cells #[.slice ba l ca, .slice bb l cb, .slice bp l cp, .slice bk (4 * l + 6) ck, .slice bz (7 * l + 3) cz] 57)) bm l M /\ FacsIn (w5.alloc (.cells #[.slice ba l ca, .slice bb l cb, .slice bp l cp, .slice bk (4 * l + 6) ck, .slice bz (7 * l + 3) cz] 57)) ba l A8 /\ FacsIn (w5.alloc (.cells #[.slice ba l ca, .slice bb l cb, .slice bp l cp, .slice bk (4 * l + 6) ck, .slice bz (7 * l + 3) cz] 57)) bb l B8 /\ FacsIn (w5.alloc (.cells #[.slice ba l ca, .slice bb l cb, .slice bp l cp, .slice bk (4 * l + 6) ck, .slice bz (7 * l + 3) cz] 57)) bp l P8 /\ FacsIn (w5.alloc (.cells #[.slice ba l ca, .slice bb l cb, .slice bp l cp, .slice bk (4 * l + 6) ck, .slice bz (7 * l + 3) cz] 57)) bk (4 * l + 6) K8 /\ FacsIn (w5.alloc (.cells #[.slice ba l ca, .slice bb l cb, .slice bp l cp, .slice bk (4 * l + 6) ck, .slice bz (7 * l + 3) cz] 57)) bz (7 * l + 3) Z8) := ⟨hbm.old HO56.out, hfa.2.old HO56.out, hfb.2.old HO56.out, hfp.old HO56.out, hfk.old HO56.out, hfz.old HO56.out⟩
  have HQ6 : Hid ((l <= ca /\ ca <= 9223372036854775807) /\ (l <= cb /\ cb <= 9223372036854775807)) := ⟨hfa.1, hfb.1⟩
  clear o5 hbm hfa hfb hfp hfk hfz HO56
  generalize w5.alloc (.cells #[.slice ba l ca, .slice bb l cb, .slice bp l cp, .slice bk (4 * l + 6) ck, .slice bz (7 * l + 3) cz] 57) = w6 at *
  generalize w5.heap.size = sb1 at *
  obtain ⟨g0, g1, g2, g3, g4⟩ := HGc.out _ HO6.out
  obtain ⟨j0, j1, j2, j3, j4, j5, j6, j7, j8⟩ := HJc.out _ HO6.out
  go_upto_region 7 with (go_at_call 32; refine (HRp.out _ (HW0.out.trans HO6.out)).mono ?_; rintro e w7 ⟨bm', cm', ba', ca', bb', cb', bp', cp', bk', ck', bz', cz', rfl, o7, hbm, hfa, hfb, hfp, hfk, hfz⟩)
  clear g0 g1 g2 g3 g4 j0 j1 j2 j3 j4 j5 j6 j7 j8 HRp
  have HO78 : Hid (Old w7 (w7.alloc (.cells #[.slice ba' l ca', .slice bb' l cb', .slice bp' l cp', .slice bk' (4 * l + 6) ck', .slice bz' (7 * l + 3) cz'] 57))) := (Old.refl _).alloc _
  have HO68 := hid (o7.trans HO78.out)
  have HR8 : Hid ((w7.alloc (.cells #[.slice ba' l ca', .slice bb' l cb', .slice bp' l cp', .slice bk' (4 * l + 6) ck', .slice bz' (7 * l + 3) cz'] 57)).heap[w7.heap.size]? = some (.cells #[.slice ba' l ca', .slice bb' l cb', .slice bp' l cp', .slice bk' (4 * l + 6) ck', .slice bz' (7 * l + 3) cz'] 57 (0, 0))) := heap_alloc_last _ _
  have HF8 : Hid (BoxF (w7.alloc (.cells #[.slice ba' l ca', .slice bb' l cb', .slice bp' l cp', .slice bk' (4 * l + 6) ck', .slice bz' (7 * l + 3) cz'] 57)) bm' l M /\ FacsIn (w7.alloc (.cells #[.slice ba' l ca', .slice bb' l cb', .slice bp' l cp', .slice bk' (4 * l + 6) ck', .slice bz' (7 * l + 3) cz'] 57)) ba' l A8 /\ FacsIn (w7.alloc (.cells #[.slice ba' l ca', .slice bb' l cb', .slice bp' l cp', .slice bk' (4 * l + 6) ck', .slice bz' (7 * l + 3) cz'] 57)) bb' l B8 /\ FacsIn (w7.alloc (.cells #[.slice ba' l ca', .slice bb' l cb', .slice bp' l cp', .slice bk' (4 * l + 6) ck', .slice bz' (7 * l + 3) cz'] 57)) bp' l P8 /\ FacsIn (w7.alloc (.cells #[.slice ba' l ca', .slice bb' l cb', .slice bp' l cp', .slice bk' (4 * l + 6) ck', .slice bz' (7 * l + 3) cz'] 57)) bk' (4 * l + 6) K8 /\ FacsIn (w7.alloc (.cells #[.slice ba' l ca', .slice bb' l cb', .slice bp' l cp', .slice bk' (4 * l + 6) ck', .slice bz' (7 * l + 3) cz'] 57)) bz' (7 * l + 3) Z8) := ⟨hbm.old HO78.out, hfa.2.old HO78.out, hfb.2.old HO78.out, hfp.old HO78.out, hfk.old HO78.out, hfz.old HO78.out⟩
  clear o7 hbm hfa hfb hfp hfk hfz HO78
  generalize w7.alloc (.cells #[.slice ba' l ca', .slice bb' l cb', .slice bp' l cp', .slice bk' (4 * l + 6) ck', .slice bz' (7 * l + 3) cz'] 57) = w8 at *
  generalize w7.heap.size = sb2 at *
  have HSs := hid fun wx (ho : Old w8 wx) => HSa.out wx bm cm bm' cm' ((HF6.out.1.old HO68.out).old ho) (HF8.out.1.old ho)
  have HAl : Hid (∀ wx, Old w8 wx -> Calls prog 33 #[.agg #[.slice ba l ca, .slice bb l cb, .slice bp l cp, .slice bk (4 * l + 6) ck, .slice bz (7 * l + 3) cz], .agg #[.slice ba' l ca', .slice bb' l cb', .slice bp' l cp', .slice bk' (4 * l + 6) ck', .slice bz' (7 * l + 3) cz']] wx (Ret wx (.bool true))) := fun wx ho => by
   obtain ⟨_, a1, b1, p1, k1, z1⟩ := HF6.out
   obtain ⟨_, a2, b2, p2, k2, z2⟩ := HF8.out
   have ho6 := HO68.out.trans ho
   exact zgm ba l ca ba' ca' A8 bb l cb bb' cb' B8 bp l cp bp' cp' P8 bk (4 * l + 6) ck bk' ck' K8 bz (7 * l + 3) cz bz' cz' Z8 wx (by omega) (by omega) (by omega) (by omega) (by omega) (a1.old ho6) (a2.old ho) (b1.old ho6) (b2.old ho) (p1.old ho6) (p2.old ho) (k1.old ho6) (k2.old ho) (z1.old ho6) (z2.old ho)
  have HS1 : Hid (∀ wx, Old w8 wx -> wx.cell? ⟨sb1, 0, none⟩ = some (.slice ba l ca) /\ wx.cell? ⟨sb1, 1, none⟩ = some (.slice bb l cb) /\ wx.cell? ⟨sb1, 2, none⟩ = some (.slice bp l cp) /\ wx.cell? ⟨sb1, 3, none⟩ = some (.slice bk (4 * l + 6) ck) /\ wx.cell? ⟨sb1, 4, none⟩ = some (.slice bz (7 * l + 3) cz)) := fun wx ho => by
   have h := (ho.block _ (zag ((HO68.out.block _ (zag HR6.out)).trans HR6.out))).trans ((HO68.out.block _ (zag HR6.out)).trans HR6.out)
   exact g5 h
  have HS2 : Hid (∀ wx, Old w8 wx -> wx.cell? ⟨sb2, 0, none⟩ = some (.slice ba' l ca') /\ wx.cell? ⟨sb2, 1, none⟩ = some (.slice bb' l cb') /\ wx.cell? ⟨sb2, 2, none⟩ = some (.slice bp' l cp') /\ wx.cell? ⟨sb2, 3, none⟩ = some (.slice bk' (4 * l + 6) ck') /\ wx.cell? ⟨sb2, 4, none⟩ = some (.slice bz' (7 * l + 3) cz')) := fun wx ho => by
   have h := (ho.block _ (zag HR8.out)).trans HR8.out
   exact g5 h
  clear HSa
  go_upto_region 9 with (first
   | (go_at_call 17; refine (HSs.out _ (Old.refl _)).mono ?_; rintro e w9 ⟨rfl, o9⟩; obtain ⟨s0, s1, s2, s3, s4⟩ := HS1.out _ o9; obtain ⟨t0, t1, t2, t3, t4⟩ := HS2.out _ o9)
   | (go_at_call 33; refine (HAl.out _ o9).mono ?_; rintro e wa ⟨rfl, oa⟩))
  clear s0 s1 s2 s3 s4 t0 t1 t2 t3 t4 HSs HAl HS2
  have HO8a := hid (o9.trans oa)
  have HOa := hid ((HO6.out.trans HO68.out).trans HO8a.out)
  clear o9 oa
  obtain ⟨g0, g1, g2, g3, g4⟩ := HGc.out _ HOa.out
  obtain ⟨j0, j1, j2, j3, j4, j5, j6, j7, j8⟩ := HJc.out _ HOa.out
  obtain ⟨s0, s1, s2, s3, s4⟩ := HS1.out _ HO8a.out
  have HAx : Hid (Calls prog 34 #[gv P Q G H a m cap, .string (strOfNums label), .int .u64 y, .slice bi l ci, .slice bm l cm, .agg #[.slice ba l ca, .slice bb l cb, .slice bp l cp, .slice bk (4 * l + 6) ck, .slice bz (7 * l + 3) cz]] wa (Ret wa (.bool true))) := by
   obtain ⟨m1, a1, b1, p1, k1, z1⟩ := HF6.out
   have ho6 := HO68.out.trans HO8a.out
   exact HAcc.out wa bm cm ba ca bb cb bp cp bk ck bz cz (HW0.out.trans HOa.out) (m1.old ho6).boxs HQ6.out.1 HQ6.out.2 (a1.old ho6) (b1.old ho6) (p1.old ho6) (k1.old ho6) (z1.old ho6)
  go_wp2_with (go_at_call 34; refine HAx.out.mono ?_; rintro e wb ⟨rfl, ob⟩)
  go_ret
  exact ⟨rfl, (HW0.out.trans HOa.out).trans ob⟩
end
end Go.Proofs.YtlnmjbbpenhdbaaGreat
