/-
  What the proof needs, part 30.
-/
import Derived.Test.YtlnmjbbpenhdbaaGreatKp26
import Derived.Test.YtlnmjbbpenhdbaaGreatKp28
import Derived.Test.YtlnmjbbpenhdbaaGreatKp29
namespace Go.Proofs.YtlnmjbbpenhdbaaGreat
set_option linter.unusedSimpArgs false
set_option linter.unusedVariables false
set_option maxRecDepth 100000
set_option maxHeartbeats 32000000
section
open Go Go.RowKit
theorem rexp8_yes (P Q G H : Int) (a : Option Addr) (m cap : Nat) (bo : Option Addr) (co : Nat) (O : Nat -> Int) (ba : Option Addr) (na ca : Nat) (X : Int) (bb : Option Addr) (nb cb : Nat) (Y Z : Int) (bp : Option Addr) (np cp : Nat) (bρ : Option Addr) (cρ : Nat) (Rh : Nat -> Nat -> Int) (bR : Option Addr) (cR : Nat) (R : Nat -> Int) (bS : Option Addr) (cS : Nat) (S : Nat -> Int) (bT : Option Addr) (cT : Nat) (T : Nat -> Int) (bD : Option Addr) (nD cD : Nat) (n : Nat) (w : World) (hQ : 0 < Q) (hQu : U64 Q) (hX : U64 X) (hY : U64 Y) (hZ : U64 Z) (hor : ordR n O = true) (hO : IntsIn w bo n O) (hρ : RhoIn w bρ n Rh) (hR : FacsIn w bR n R) (hS : FacsIn w bS n S) (hT : FacsIn w bT n T) :
  Calls Tryz.prog 27 #[gv P Q G H a m cap, .slice bo n co, tk ba na ca X bb nb cb Y Z bp np cp, dv bρ n cρ bR n cR bS n cS bT n cT bD nD cD] w (GivF w (7 * n + 3) (exF Q X Y Z n (fun i => (O i).toNat) R S T Rh)) := by
 have h8 : n <= 8 := (ordR_iff.1 hor).1.2
 have h1 : 0 < n := (ordR_iff.1 hor).1.1
 have hP : OrdP n O := ordB_iff.1 (by have := hor; unfold ordR at this; exact (Bool.and_eq_true_iff.1 this).2)
 have HOr : Hid (∀ wx, Old w wx -> Calls Tryz.prog 56 #[.slice bo n co] wx (Ret wx (.bool true))) := fun wx hx => by have h := rorder8_any bo n co O wx (by omega) (hO.old hx); rw [hor] at h; exact h
 have HBd : Hid (∀ i, i < n -> 0 <= O i /\ O i < 1000) := fun i hi => by have := hP.2.1 i hi; omega
 obtain ⟨E, hE⟩ : ∃ E, E = exF Q X Y Z n (fun i => (O i).toNat) R S T Rh := ⟨_, rfl⟩
 obtain ⟨o, ho8⟩ : ∃ o : Nat -> Nat, o = (fun i => (O i).toNat) := ⟨_, rfl⟩
 have Hoi : Hid (∀ i, i < n -> (o i : Int) = O i) := fun i hi => by rw [ho8]; have := HBd.out i hi; show ((O i).toNat : Int) = O i; omega
 rw [<- hE]
 rw [<- ho8] at hE
 have HEa : Hid (∀ i, i < n -> E i = (O i + 1) % Q /\ E (n + i) = R i % Q /\ E (2 * n + i) = Go.Proofs.YtlnmjbbpenhdbaaGreat.bE Q X o i /\ E (3 * n + i) = S i % Q /\ E (4 * n + i) = Go.Proofs.YtlnmjbbpenhdbaaGreat.dE Q X Y Z o i /\ E (5 * n + i) = Go.Proofs.YtlnmjbbpenhdbaaGreat.uE Q Y R S i /\ (0 < i -> E (6 * n + i - 1) = T i % Q)) := fun i hi => by
  have h := exF_at (Q := Q) (X := X) (Y := Y) (Z := Z) (o := o) (R := R) (S := S) (T := T) (Rho := Rh) hi
  rw [<- hE, Hoi.out i hi] at h
  exact h
 have HEe : Hid (E (7 * n - 1) = vE Q X Y Z o R S T (n - 1) /\ ∀ w, w < 3 -> rhoE Q X o Rh w n = E (7 * n + w)) := by unfold Hid; rw [hE]; exact exF_end h1
 obtain ⟨Rr, hRr⟩ : ∃ Rr, Rr = rhoE Q X o Rh := ⟨_, rfl⟩
 have HRz : Hid (∀ w, Rr w 0 = 0) := fun w => by rw [hRr]; rfl
 have HRn : Hid (∀ w i, Rr w (i + 1) = subI (Rr w i) (mulI (Go.Proofs.YtlnmjbbpenhdbaaGreat.bE Q X o i) (Rh i w) Q) Q) := fun w i => by rw [hRr]; rfl
 have HRu : Hid (∀ w i, U64 (Rr w i)) := fun w i => by
  rw [hRr]
  cases i with
  | zero => exact ⟨by show (0 : Int) <= 0; omega, by show (0 : Int) <= _; omega⟩
  | succ i => exact u64_sub _ _ _
 have HVn : Hid (∀ i, 0 < i -> Go.Proofs.YtlnmjbbpenhdbaaGreat.vP Q X Y Z o R S T (i + 1) = addI (mulI (Go.Proofs.YtlnmjbbpenhdbaaGreat.vP Q X Y Z o R S T i) (Go.Proofs.YtlnmjbbpenhdbaaGreat.dE Q X Y Z o i) Q) (T i) Q) := fun i h => vP_next h
 have HV0 : Hid (Go.Proofs.YtlnmjbbpenhdbaaGreat.vP Q X Y Z o R S T 1 = Go.Proofs.YtlnmjbbpenhdbaaGreat.uE Q Y R S 0) := rfl
 have HVe : Hid (Go.Proofs.YtlnmjbbpenhdbaaGreat.vP Q X Y Z o R S T n = E (7 * n - 1)) := by
  have h := HEe.out.1
  unfold Hid
  rw [h]
  obtain ⟨j, hj⟩ : ∃ j, n = j + 1 := ⟨n - 1, by omega⟩
  rw [hj]
  rfl
 have HVz : Hid (Go.Proofs.YtlnmjbbpenhdbaaGreat.vP Q X Y Z o R S T 0 = 0) := rfl
 have HVu : Hid (∀ i, U64 (Go.Proofs.YtlnmjbbpenhdbaaGreat.vP Q X Y Z o R S T i)) := fun i => by
  match i with
  | 0 => exact ⟨by show (0 : Int) <= 0; omega, by show (0 : Int) <= _; omega⟩
  | 1 => exact u64_add _ _ _
  | i + 2 => exact u64_add _ _ _
 have HRe3 : Hid (∀ w, w < 3 -> Rr w n = E (7 * n + w)) := by unfold Hid; rw [hRr]; exact HEe.out.2
 have HPw : Hid (∀ wx i, i < n -> Calls Tryz.prog 62 #[gv P Q G H a m cap, .int .u64 X, .int .i64 (O i + 1)] wx (Ret wx (.int .u64 (Go.Proofs.YtlnmjbbpenhdbaaGreat.bE Q X o i)))) := fun wx i hi => by
  unfold Go.Proofs.YtlnmjbbpenhdbaaGreat.bE
  rw [Hoi.out i hi]
  exact rpower8_any P Q G H a m cap X _ wx hX (by have := HBd.out i hi; omega)
 have HDd : Hid (∀ wx i, i < n -> Old w wx -> Calls Tryz.prog 69 #[gv P Q G H a m cap, .slice bo n co, tk ba na ca X bb nb cb Y Z bp np cp, .int .i64 (i : Int)] wx (Ret wx (.int .u64 (Go.Proofs.YtlnmjbbpenhdbaaGreat.dE Q X Y Z o i)))) := fun wx i hi ho => by
  unfold Go.Proofs.YtlnmjbbpenhdbaaGreat.dE Go.Proofs.YtlnmjbbpenhdbaaGreat.bE
  rw [Hoi.out i hi]
  exact rd8_any P Q G H a m cap bo n co O ba na ca X bb nb cb Y Z bp np cp i wx hi hX hY hZ (hO.old ho) (HBd.out i hi)
 have HbU : Hid (∀ i, U64 (Go.Proofs.YtlnmjbbpenhdbaaGreat.bE Q X o i)) := fun i => u64_pow _ _ _
 have HdU : Hid (∀ i, U64 (Go.Proofs.YtlnmjbbpenhdbaaGreat.dE Q X Y Z o i)) := fun i => u64_sub _ _ _
 have HuE : Hid (∀ i, Go.Proofs.YtlnmjbbpenhdbaaGreat.uE Q Y R S i = addI (mulI Y (R i) Q) (S i) Q) := fun i => rfl
 generalize Go.Proofs.YtlnmjbbpenhdbaaGreat.bE Q X o = bE at *
 generalize Go.Proofs.YtlnmjbbpenhdbaaGreat.dE Q X Y Z o = dE at *
 generalize Go.Proofs.YtlnmjbbpenhdbaaGreat.uE Q Y R S = uE at *
 generalize Go.Proofs.YtlnmjbbpenhdbaaGreat.vP Q X Y Z o R S T = vP at *
 have HRhu : Hid (∀ j k, j < n -> k < 3 -> U64 (Rh j k)) := fun j k hj hk => hρ.u64 hj hk
 have HRru : Hid (∀ i, i < n -> U64 (R i)) := hR.u64
 have HSu : Hid (∀ i, i < n -> U64 (S i)) := hS.u64
 have HTu : Hid (∀ i, i < n -> U64 (T i)) := hT.u64
 obtain ⟨N, hN⟩ : ∃ N, N = 7 * n + 3 := ⟨_, rfl⟩
 rw [<- hN]
 have HNN : Hid (N = 7 * n + 3) := hN
 have hN8 : N <= 80 := by omega
 have k1 : IntKind.i64.wrap (7 * (n : Int)) = 7 * (n : Int) := by rw [IntKind.wrap_i64]; omega
 have k2 : IntKind.i64.wrap (7 * (n : Int) + 3) = (N : Int) := by rw [IntKind.wrap_i64]; omega
 have hmk := make_run N hN8
 have HQ : Hid (0 < Q) := hQ
 rcases hO with h0 | ⟨bo, oo, rfl, _, hro⟩
 · omega
 rcases hR with h0 | ⟨rb, ro, rfl, _, hrr⟩
 · omega
 rcases hS with h0 | ⟨sb, so, rfl, _, hrs⟩
 · omega
 rcases hT with h0 | ⟨tb, tof, rfl, _, hrt⟩
 · omega
 rcases hρ with h0 | ⟨hb, ho, rfl, _, hrh⟩
 · omega
 have HO0 : Hid (∀ wx i, i < n -> Old w wx -> wx.cell? ⟨bo, oo + i, none⟩ = some (.int .i64 (O i))) := fun wx i hi ho => ho.cellOf (hro i hi).1
 have HR0 : Hid (∀ wx i, i < n -> Old w wx -> wx.cell? ⟨rb, ro + i, none⟩ = some (.int .u64 (R i))) := fun wx i hi ho => ho.cellOf (hrr i hi).1
 have HS0 : Hid (∀ wx i, i < n -> Old w wx -> wx.cell? ⟨sb, so + i, none⟩ = some (.int .u64 (S i))) := fun wx i hi ho => ho.cellOf (hrs i hi).1
 have HT0 : Hid (∀ wx i, i < n -> Old w wx -> wx.cell? ⟨tb, tof + i, none⟩ = some (.int .u64 (T i))) := fun wx i hi ho => ho.cellOf (hrt i hi).1
 have HH0 : Hid (∀ wx j k, j < n -> k < 3 -> Old w wx -> wx.cell? ⟨hb, ho + j * 3 + k, none⟩ = some (.int .u64 (Rh j k))) := fun wx j k hj hk ho => ho.cellOf (hrh j hj k hk).1
 clear hE ho8 hN hRr hro hrr hrs hrt hrh hP hor hQ hX hZ HEe
 have HYu : Hid (U64 Y) := hY
 clear hY hQu
 have HZ := lain3 w (gc P Q G H a m cap) (tkc ba na ca X bb nb cb Y Z bp np cp) (dvc (some ⟨hb, ho, none⟩) n cρ (some ⟨rb, ro, none⟩) n cR (some ⟨sb, so, none⟩) n cS (some ⟨tb, tof, none⟩) n cT bD nD cD) 25 41 31
 have HG0 := fun w' ho => (HZ.then (W' := w') ho).row 0 (by simp)
 have HTk0 := fun w' ho => (HZ.then (W' := w') ho).row 1 (by simp)
 have HD0 := fun w' ho => (HZ.then (W' := w') ho).row 2 (by simp)
 have HW0 : Hid (Old w (((w.alloc (.cells (gc P Q G H a m cap) 25)).alloc (.cells (tkc ba na ca X bb nb cb Y Z bp np cp) 41)).alloc (.cells (dvc (some ⟨hb, ho, none⟩) n cρ (some ⟨rb, ro, none⟩) n cR (some ⟨sb, so, none⟩) n cS (some ⟨tb, tof, none⟩) n cT bD nD cD) 31))) := HZ.old
 clear HZ
 go_enter Tryz.func27, Tryz.ntmps27
 go_upto_region 1 with fail
 generalize (((w.alloc (.cells (gc P Q G H a m cap) 25)).alloc (.cells (tkc ba na ca X bb nb cb Y Z bp np cp) 41)).alloc (.cells (dvc (some ⟨hb, ho, none⟩) n cρ (some ⟨rb, ro, none⟩) n cR (some ⟨sb, so, none⟩) n cS (some ⟨tb, tof, none⟩) n cT bD nD cD) 31)) = W at *
 have HG : Hid (∀ wx, Old W wx -> wx.heap[w.heap.size]? = some (.cells (gc P Q G H a m cap) 25 (0, 0))) := HG0
 have HTk : Hid (∀ wx, Old W wx -> wx.heap[w.heap.size + 1]? = some (.cells (tkc ba na ca X bb nb cb Y Z bp np cp) 41 (0, 0))) := HTk0
 have HDr : Hid (∀ wx, Old W wx -> wx.heap[w.heap.size + 1 + 1]? = some (.cells (dvc (some ⟨hb, ho, none⟩) n cρ (some ⟨rb, ro, none⟩) n cR (some ⟨sb, so, none⟩) n cS (some ⟨tb, tof, none⟩) n cT bD nD cD) 31 (0, 0))) := HD0
 clear HG0 HTk0 HD0
 obtain ⟨gb, hgb⟩ : ∃ gb, gb = w.heap.size := ⟨_, rfl⟩
 rw [<- hgb] at HG HTk HDr
 rw [<- hgb]
 clear hgb
 have HGc : Hid (∀ wx, Old W wx -> wx.cell? ⟨gb, 0, none⟩ = some (.int .u64 P) /\ wx.cell? ⟨gb, 1, none⟩ = some (.int .u64 Q) /\ wx.cell? ⟨gb, 2, none⟩ = some (.int .u64 G) /\ wx.cell? ⟨gb, 3, none⟩ = some (.int .u64 H) /\ wx.cell? ⟨gb, 4, none⟩ = some (.slice a m cap)) := fun wx ho => ⟨cell_of_row _ _ 0 _ _ (0, 0) (HG.out _ ho), cell_of_row _ _ 1 _ _ (0, 0) (HG.out _ ho), cell_of_row _ _ 2 _ _ (0, 0) (HG.out _ ho), cell_of_row _ _ 3 _ _ (0, 0) (HG.out _ ho), cell_of_row _ _ 4 _ _ (0, 0) (HG.out _ ho)⟩
 have HTkc : Hid (∀ wx, Old W wx -> wx.cell? ⟨gb + 1, 0, none⟩ = some (.slice ba na ca) /\ wx.cell? ⟨gb + 1, 1, none⟩ = some (.int .u64 X) /\ wx.cell? ⟨gb + 1, 2, none⟩ = some (.slice bb nb cb) /\ wx.cell? ⟨gb + 1, 3, none⟩ = some (.int .u64 Y) /\ wx.cell? ⟨gb + 1, 4, none⟩ = some (.int .u64 Z) /\ wx.cell? ⟨gb + 1, 5, none⟩ = some (.slice bp np cp)) := fun wx ho => ⟨cell_of_row _ _ 0 _ _ (0, 0) (HTk.out _ ho), cell_of_row _ _ 1 _ _ (0, 0) (HTk.out _ ho), cell_of_row _ _ 2 _ _ (0, 0) (HTk.out _ ho), cell_of_row _ _ 3 _ _ (0, 0) (HTk.out _ ho), cell_of_row _ _ 4 _ _ (0, 0) (HTk.out _ ho), cell_of_row _ _ 5 _ _ (0, 0) (HTk.out _ ho)⟩
 have HDc : Hid (∀ wx, Old W wx -> wx.cell? ⟨gb + 1 + 1, 0, none⟩ = some (.slice (some ⟨hb, ho, none⟩) n cρ) /\ wx.cell? ⟨gb + 1 + 1, 1, none⟩ = some (.slice (some ⟨rb, ro, none⟩) n cR) /\ wx.cell? ⟨gb + 1 + 1, 2, none⟩ = some (.slice (some ⟨sb, so, none⟩) n cS) /\ wx.cell? ⟨gb + 1 + 1, 3, none⟩ = some (.slice (some ⟨tb, tof, none⟩) n cT)) := fun wx ho => ⟨cell_of_row _ _ 0 _ _ (0, 0) (HDr.out _ ho), cell_of_row _ _ 1 _ _ (0, 0) (HDr.out _ ho), cell_of_row _ _ 2 _ _ (0, 0) (HDr.out _ ho), cell_of_row _ _ 3 _ _ (0, 0) (HDr.out _ ho)⟩
 have HOc : Hid (∀ wx i, i < n -> Old W wx -> wx.cell? ⟨bo, oo + i, none⟩ = some (.int .i64 (O i))) := fun wx i hi ho => HO0.out wx i hi (HW0.out.trans ho)
 have HRc : Hid (∀ wx i, i < n -> Old W wx -> wx.cell? ⟨rb, ro + i, none⟩ = some (.int .u64 (R i))) := fun wx i hi ho => HR0.out wx i hi (HW0.out.trans ho)
 have HSc : Hid (∀ wx i, i < n -> Old W wx -> wx.cell? ⟨sb, so + i, none⟩ = some (.int .u64 (S i))) := fun wx i hi ho => HS0.out wx i hi (HW0.out.trans ho)
 have HTc : Hid (∀ wx i, i < n -> Old W wx -> wx.cell? ⟨tb, tof + i, none⟩ = some (.int .u64 (T i))) := fun wx i hi ho => HT0.out wx i hi (HW0.out.trans ho)
 have HHc : Hid (∀ wx j k, j < n -> k < 3 -> Old W wx -> wx.cell? ⟨hb, ho + j * 3 + k, none⟩ = some (.int .u64 (Rh j k))) := fun wx j k hj hk hx => HH0.out wx j k hj hk (HW0.out.trans hx)
 clear HO0 HR0 HS0 HT0 HH0
 go_upto_region 4 with (go_at_call 56; refine (HOr.out _ HW0.out).mono ?_; rintro e w1 ⟨rfl, o1⟩; obtain ⟨d0, d1, d2, d3⟩ := HDc.out _ o1)
 have HO1 : Hid (Old W w1) := o1
 clear o1 d0 d1 d2 d3 HOr
 go_upto_region 5 with fail
 clear k1 k2 hmk
 have HF0 : Hid (Full (w1.alloc (.cells (madeCells #[Value.int .u64 0] N) 22)) w1.heap.size N (eI E Rr n 0)) := full_new w1 N _ fun k _ => eI_zero HRz.out
 have HO2 : Hid (Old W (w1.alloc (.cells (madeCells #[Value.int .u64 0] N) 22))) := HO1.out.alloc _
 have Hlb : Hid (W.heap.size <= w1.heap.size) := HO1.out.size
 generalize w1.alloc (.cells (madeCells #[Value.int .u64 0] N) 22) = w2 at *
 generalize w1.heap.size = lb at *
 clear HO1
 go_upto_region 7 with fail
 go_loopw [11, 12] (fun v iv wx => ∃ i : Nat, iv = .int .i64 (i : Int) /\ i <= n /\ v = .int .u64 (vP i) /\ Hid (Full wx lb N (eI E Rr n i)) /\ Hid (Old W wx)) (fun _ iv _ => n - (intOf iv).toNat)
 case atStart => exact ⟨0, rfl, Nat.zero_le _, by rw [HVz.out], HF0, HO2⟩
 case round =>
  obtain ⟨i, rfl, hi, rfl, HN, HO⟩ := hrel
  by_cases hlt : i < n
  · have hlt2 : i < n := hlt
   obtain ⟨x0, hx0⟩ : ∃ x0, x0 = O i := ⟨_, rfl⟩
   have HX0 : Hid (0 <= x0 /\ x0 < 1000) := by unfold Hid; rw [hx0]; exact HBd.out i hlt2
   have HXe : Hid (O i = x0) := hx0.symm
   clear hx0
   have HVi : Hid (Value.int .i64 (IntKind.i64.wrap (O i + 1)) = .int .i64 (O i + 1)) := by have h := HX0.out; unfold Hid; rw [HXe.out, wrapi _ (by omega)]
   have HVu2 : Hid (Value.int .u64 (IntKind.u64.wrap (O i + 1)) = .int .u64 (O i + 1)) := by have h := HX0.out; unfold Hid; rw [HXe.out, wrapu _ (by omega)]
   have HOp : Hid (0 <= O i + 1) := by have h := HX0.out; unfold Hid; rw [HXe.out]; omega
   clear HXe HX0
   go_upto_region 9 with fail
   have HGx : Hid (∀ wx, Old wr wx -> wx.heap[gb]? = some (.cells (gc P Q G H a m cap) 25 (0, 0))) := fun wx hx => HG.out _ (HO.out.trans hx)
   have HTx : Hid (∀ wx, Old wr wx -> wx.heap[gb + 1]? = some (.cells (tkc ba na ca X bb nb cb Y Z bp np cp) 41 (0, 0))) := fun wx hx => HTk.out _ (HO.out.trans hx)
   have HDx : Hid (∀ wx, Old wr wx -> wx.heap[gb + 1 + 1]? = some (.cells (dvc (some ⟨hb, ho, none⟩) n cρ (some ⟨rb, ro, none⟩) n cR (some ⟨sb, so, none⟩) n cS (some ⟨tb, tof, none⟩) n cT bD nD cD) 31 (0, 0))) := fun wx hx => HDr.out _ (HO.out.trans hx)
   have HOi : Hid (∀ wx, Old wr wx -> wx.cell? ⟨bo, oo + i, none⟩ = some (.int .i64 (O i))) := fun wx hx => HOc.out wx i hlt2 (HO.out.trans hx)
   have HRi : Hid (∀ wx, Old wr wx -> wx.cell? ⟨rb, ro + i, none⟩ = some (.int .u64 (R i))) := fun wx hx => HRc.out wx i hlt2 (HO.out.trans hx)
   have HSi : Hid (∀ wx, Old wr wx -> wx.cell? ⟨sb, so + i, none⟩ = some (.int .u64 (S i))) := fun wx hx => HSc.out wx i hlt2 (HO.out.trans hx)
   have HTi : Hid (∀ wx, Old wr wx -> wx.cell? ⟨tb, tof + i, none⟩ = some (.int .u64 (T i))) := fun wx hx => HTc.out wx i hlt2 (HO.out.trans hx)
   refine wp_region_tabz 10 [.k (gv P Q G H a m cap), .k (.pointer (some ⟨gb + 1, 1, none⟩)), .k (.int .u64 X), .k (.slice (some ⟨bo, oo, none⟩) n co), .k (.int .i64 (i : Int)), .k (.pointer (some ⟨bo, oo + i, none⟩)), .k (.int .i64 (O i)), .k (.int .i64 (O i + 1)), .k (.int .u64 (bE i)), .k (.int .u64 (bE i))] (Old wr) (by kernel_rfl) (by kernel_rfl) rfl ((Old.refl _).drew) ?st ?_
   case st =>
    refine .c (stsz Tryz.underlying25 HGx.out) <| .c stpz <| .c (stfz 1 Tryz.underlying22 HTx.out) <| .c stpz <| .c stpz <| .c (stiz (n := n) (c := co) hlt2 Tryz.underlying27) <| .c (stlz Tryz.underlying3 HOi.out) <| .c (stvz HVi.out) <| .c (stKz old_R Tryz.func62 (fun wx _ => HPw.out wx i hlt2)) <| .c stpz .n
   intro t wx hR hk
   simp only [fill, Ent.val, List.set_cons_zero, List.set_cons_succ, List.drop_succ_cons, List.drop_zero, List.drop_nil]
   go_upto_region 10 with fail
   have HN' : Hid (Full wx lb N _) := HN.out.old hR
   have HO' : Hid (Old W wx) := HO.out.trans hR
   clear HN HO hR hk HGx HTx HDx HOi HRi HSi HTi
   have HN := HN'
   have HO := HO'
   clear HN' HO'
   have HOw : Hid (Old w wx) := HW0.out.trans HO.out
   obtain ⟨g0, g1, g2, g3, g4⟩ := HGc.out _ HO.out
   obtain ⟨t0, t1, t2, t3, t4, t5⟩ := HTkc.out _ HO.out
   go_upto_region 11 with (go_at_call 69; refine (HDd.out _ i hlt2 HOw.out).mono ?_; rintro e w3 ⟨rfl, o3⟩)
   have HN' : Hid (Full w3 lb N (eI E Rr n i)) := HN.out.old o3
   have HO' : Hid (Old W w3) := HO.out.trans o3
   clear HN HO HOw o3 g0 g1 g2 g3 g4 t0 t1 t2 t3 t4 t5
   have HN := HN'
   have HO := HO'
   clear HN' HO'
   have HGx : Hid (∀ wx, Old w3 wx -> wx.heap[gb]? = some (.cells (gc P Q G H a m cap) 25 (0, 0))) := fun wx hx => HG.out _ (HO.out.trans hx)
   have HTx : Hid (∀ wx, Old w3 wx -> wx.heap[gb + 1]? = some (.cells (tkc ba na ca X bb nb cb Y Z bp np cp) 41 (0, 0))) := fun wx hx => HTk.out _ (HO.out.trans hx)
   have HDx : Hid (∀ wx, Old w3 wx -> wx.heap[gb + 1 + 1]? = some (.cells (dvc (some ⟨hb, ho, none⟩) n cρ (some ⟨rb, ro, none⟩) n cR (some ⟨sb, so, none⟩) n cS (some ⟨tb, tof, none⟩) n cT bD nD cD) 31 (0, 0))) := fun wx hx => HDr.out _ (HO.out.trans hx)
   have HOi : Hid (∀ wx, Old w3 wx -> wx.cell? ⟨bo, oo + i, none⟩ = some (.int .i64 (O i))) := fun wx hx => HOc.out wx i hlt2 (HO.out.trans hx)
   have HRi : Hid (∀ wx, Old w3 wx -> wx.cell? ⟨rb, ro + i, none⟩ = some (.int .u64 (R i))) := fun wx hx => HRc.out wx i hlt2 (HO.out.trans hx)
   have HSi : Hid (∀ wx, Old w3 wx -> wx.cell? ⟨sb, so + i, none⟩ = some (.int .u64 (S i))) := fun wx hx => HSc.out wx i hlt2 (HO.out.trans hx)
   have HTi : Hid (∀ wx, Old w3 wx -> wx.cell? ⟨tb, tof + i, none⟩ = some (.int .u64 (T i))) := fun wx hx => HTc.out wx i hlt2 (HO.out.trans hx)
   have HEr : Hid (U64 (R i) /\ U64 (S i) /\ U64 (T i)) := ⟨HRru.out i hlt2, HSu.out i hlt2, HTu.out i hlt2⟩
   have HCu : Hid (∀ wx, Calls Tryz.prog 77 #[.int .u64 (mulI Y (R i) Q), .int .u64 (S i), .int .u64 Q] wx (Ret wx (.int .u64 (uE i)))) := fun wx => by rw [HuE.out]; exact sradd_any _ _ Q (u64_mul _ _ _) HEr.out.2.1 wx
   refine wp_region_tabz 19 [.k (.pointer (some ⟨gb + 1, 3, none⟩)), .k (.int .u64 Y), .k (.pointer (some ⟨gb + 1 + 1, 1, none⟩)), .k (.slice (some ⟨rb, ro, none⟩) n cR), .k (.int .i64 (i : Int)), .k (.pointer (some ⟨rb, ro + i, none⟩)), .k (.int .u64 (R i)), .k (.pointer (some ⟨gb, 1, none⟩)), .k (.int .u64 Q), .k (.int .u64 (mulI Y (R i) Q)), .k (.pointer (some ⟨gb + 1 + 1, 2, none⟩)), .k (.slice (some ⟨sb, so, none⟩) n cS), .k (.int .i64 (i : Int)), .k (.pointer (some ⟨sb, so + i, none⟩)), .k (.int .u64 (S i)), .k (.pointer (some ⟨gb, 1, none⟩)), .k (.int .u64 Q), .k (.int .u64 (uE i)), .k (.int .u64 (uE i))] (Old w3) (by kernel_rfl) (by kernel_rfl) rfl ((Old.refl _).drew) ?st ?_
   case st =>
    refine .c stpz <| .c (stfz 3 Tryz.underlying22 HTx.out) <| .c stpz <| .c (stfz 1 Tryz.underlying29 HDx.out) <| .c stpz <| .c (stiz (n := n) (c := cR) hlt2 Tryz.underlying29) <| .c (stlz Tryz.underlying22 HRi.out) <| .c stpz <| .c (stfz 1 Tryz.underlying22 HGx.out) <| .c (stKz old_R Tryz.func70 (fun wx _ => srmul_any _ _ Q HYu.out HEr.out.1 wx)) <| .c stpz <| .c (stfz 2 Tryz.underlying29 HDx.out) <| .c stpz <| .c (stiz (n := n) (c := cS) hlt2 Tryz.underlying29) <| .c (stlz Tryz.underlying22 HSi.out) <| .c stpz <| .c (stfz 1 Tryz.underlying22 HGx.out) <| .c (stKz old_R Tryz.func77 (fun wx _ => HCu.out wx)) <| .c stpz .n
   intro t w4 hR hk
   simp only [fill, Ent.val, List.set_cons_zero, List.set_cons_succ, List.drop_succ_cons, List.drop_zero, List.drop_nil]
   go_upto_region 12 with fail
   have HN' : Hid (Full w4 lb N _) := HN.out.old hR
   have HO' : Hid (Old W w4) := HO.out.trans hR
   clear HN HO hR hk HGx HTx HDx HOi HRi HSi HTi HCu
   have HN := HN'
   have HO := HO'
   clear HN' HO'
   have HGx : Hid (∀ wx, Old w4 wx -> wx.heap[gb]? = some (.cells (gc P Q G H a m cap) 25 (0, 0))) := fun wx hx => HG.out _ (HO.out.trans hx)
   have HTx : Hid (∀ wx, Old w4 wx -> wx.heap[gb + 1]? = some (.cells (tkc ba na ca X bb nb cb Y Z bp np cp) 41 (0, 0))) := fun wx hx => HTk.out _ (HO.out.trans hx)
   have HDx : Hid (∀ wx, Old w4 wx -> wx.heap[gb + 1 + 1]? = some (.cells (dvc (some ⟨hb, ho, none⟩) n cρ (some ⟨rb, ro, none⟩) n cR (some ⟨sb, so, none⟩) n cS (some ⟨tb, tof, none⟩) n cT bD nD cD) 31 (0, 0))) := fun wx hx => HDr.out _ (HO.out.trans hx)
   have HOi : Hid (∀ wx, Old w4 wx -> wx.cell? ⟨bo, oo + i, none⟩ = some (.int .i64 (O i))) := fun wx hx => HOc.out wx i hlt2 (HO.out.trans hx)
   have HRi : Hid (∀ wx, Old w4 wx -> wx.cell? ⟨rb, ro + i, none⟩ = some (.int .u64 (R i))) := fun wx hx => HRc.out wx i hlt2 (HO.out.trans hx)
   have HSi : Hid (∀ wx, Old w4 wx -> wx.cell? ⟨sb, so + i, none⟩ = some (.int .u64 (S i))) := fun wx hx => HSc.out wx i hlt2 (HO.out.trans hx)
   have HTi : Hid (∀ wx, Old w4 wx -> wx.cell? ⟨tb, tof + i, none⟩ = some (.int .u64 (T i))) := fun wx hx => HTc.out wx i hlt2 (HO.out.trans hx)
   have hi8 : i < N := by have := HNN.out; omega
   refine wp_region_tabz 12 [.k (.slice (some ⟨lb, 0, none⟩) N N), .k (.int .i64 (i : Int)), .k (.slice (some ⟨bo, oo, none⟩) n co), .k (.int .i64 (i : Int)), .k (.pointer (some ⟨bo, oo + i, none⟩)), .k (.int .i64 (O i)), .k (.int .i64 (O i + 1)), .k (.int .u64 (O i + 1)), .k (.pointer (some ⟨gb, 1, none⟩)), .k (.int .u64 Q), .k (.int .u64 ((O i + 1) % Q)), .k (.pointer (some ⟨lb, i, none⟩))] (Old w4) (by kernel_rfl) (by kernel_rfl) rfl ((Old.refl _).drew) ?st ?_
   case st =>
    refine .c stpz <| .c stpz <| .c stpz <| .c stpz <| .c (stiz (n := n) (c := co) hlt2 Tryz.underlying27) <| .c (stlz Tryz.underlying3 HOi.out) <| .c (stvz HVi.out) <| .c (stvz HVu2.out) <| .c stpz <| .c (stfz 1 Tryz.underlying22 HGx.out) <| .c (strz HOp.out HQ.out) <| .c (sti0z (n := N) (c := N) hi8 Tryz.underlying29) .n
   intro t w5 hR hk
   simp only [fill, Ent.val, List.set_cons_zero, List.set_cons_succ, List.drop_succ_cons, List.drop_zero, List.drop_nil]
   have HN' : Hid (Full w5 lb N _) := HN.out.old hR
   have HO' : Hid (Old W w5) := HO.out.trans hR
   clear HN HO hR hk HGx HTx HDx HOi HRi HSi HTi
   have HN := HN'
   have HO := HO'
   clear HN' HO'
   have q1 := HN.out.cell i hi8
   have f1 := HN.out.free i
   have HN' : Hid (Full (w5.setCell ⟨lb, i, none⟩ (.int .u64 ((O i + 1) % Q))) lb N (sett8 (eI E Rr n i) i ((O i + 1) % Q))) := HN.out.set i ((O i + 1) % Q)
   have HO' : Hid (Old W (w5.setCell ⟨lb, i, none⟩ (.int .u64 ((O i + 1) % Q)))) := HO.out.setCell (p := ⟨lb, i, none⟩) Hlb.out _
   clear HN HO
   go_upto_region 13 with fail
   clear q1 f1
   have HN : Hid (Full (w5.setCell ⟨lb, i, none⟩ (.int .u64 ((O i + 1) % Q))) lb N (sett8 (eI E Rr n i) i ((O i + 1) % Q))) := HN'
   have HO : Hid (Old W (w5.setCell ⟨lb, i, none⟩ (.int .u64 ((O i + 1) % Q)))) := HO'
   clear HN' HO'
   generalize w5.setCell ⟨lb, i, none⟩ (.int .u64 ((O i + 1) % Q)) = w6 at *
   have HGx : Hid (∀ wx, Old w6 wx -> wx.heap[gb]? = some (.cells (gc P Q G H a m cap) 25 (0, 0))) := fun wx hx => HG.out _ (HO.out.trans hx)
   have HTx : Hid (∀ wx, Old w6 wx -> wx.heap[gb + 1]? = some (.cells (tkc ba na ca X bb nb cb Y Z bp np cp) 41 (0, 0))) := fun wx hx => HTk.out _ (HO.out.trans hx)
   have HDx : Hid (∀ wx, Old w6 wx -> wx.heap[gb + 1 + 1]? = some (.cells (dvc (some ⟨hb, ho, none⟩) n cρ (some ⟨rb, ro, none⟩) n cR (some ⟨sb, so, none⟩) n cS (some ⟨tb, tof, none⟩) n cT bD nD cD) 31 (0, 0))) := fun wx hx => HDr.out _ (HO.out.trans hx)
   have HOi : Hid (∀ wx, Old w6 wx -> wx.cell? ⟨bo, oo + i, none⟩ = some (.int .i64 (O i))) := fun wx hx => HOc.out wx i hlt2 (HO.out.trans hx)
   have HRi : Hid (∀ wx, Old w6 wx -> wx.cell? ⟨rb, ro + i, none⟩ = some (.int .u64 (R i))) := fun wx hx => HRc.out wx i hlt2 (HO.out.trans hx)
   have HSi : Hid (∀ wx, Old w6 wx -> wx.cell? ⟨sb, so + i, none⟩ = some (.int .u64 (S i))) := fun wx hx => HSc.out wx i hlt2 (HO.out.trans hx)
   have HTi : Hid (∀ wx, Old w6 wx -> wx.cell? ⟨tb, tof + i, none⟩ = some (.int .u64 (T i))) := fun wx hx => HTc.out wx i hlt2 (HO.out.trans hx)
   obtain ⟨p1, hp1⟩ : ∃ p1, p1 = n + i := ⟨_, rfl⟩
   have hp8 : p1 < N := by have := HNN.out; omega
   have HP : Hid (Value.int .i64 (IntKind.i64.wrap ((n : Int) + (i : Int))) = .int .i64 (p1 : Int)) := vi8 _ p1 (by omega) (by omega)
   have Hp1 : Hid (p1 = n + i) := hp1
   clear hp1
   refine wp_region_tabz 13 [.k (.slice (some ⟨lb, 0, none⟩) N N), .k (.int .i64 (n : Int)), .k (.int .i64 (i : Int)), .k (.int .i64 (p1 : Int)), .k (.pointer (some ⟨gb + 1 + 1, 1, none⟩)), .k (.slice (some ⟨rb, ro, none⟩) n cR), .k (.int .i64 (i : Int)), .k (.pointer (some ⟨rb, ro + i, none⟩)), .k (.int .u64 (R i)), .k (.pointer (some ⟨gb, 1, none⟩)), .k (.int .u64 Q), .k (.int .u64 (R i % Q)), .k (.pointer (some ⟨lb, p1, none⟩))] (Old w6) (by kernel_rfl) (by kernel_rfl) rfl ((Old.refl _).drew) ?st ?_
   case st =>
    refine .c stpz <| .c stpz <| .c stpz <| .c (stvz HP.out) <| .c stpz <| .c (stfz 1 Tryz.underlying29 HDx.out) <| .c stpz <| .c (stiz (n := n) (c := cR) hlt2 Tryz.underlying29) <| .c (stlz Tryz.underlying22 HRi.out) <| .c stpz <| .c (stfz 1 Tryz.underlying22 HGx.out) <| .c (strz HEr.out.1.1 HQ.out) <| .c (sti0z (n := N) (c := N) hp8 Tryz.underlying29) .n
   intro t w7 hR hk
   simp only [fill, Ent.val, List.set_cons_zero, List.set_cons_succ, List.drop_succ_cons, List.drop_zero, List.drop_nil]
   have HN' : Hid (Full w7 lb N _) := HN.out.old hR
   have HO' : Hid (Old W w7) := HO.out.trans hR
   clear HN HO hR hk HGx HTx HDx HOi HRi HSi HTi
   have HN := HN'
   have HO := HO'
   clear HN' HO'
   have q1 := HN.out.cell p1 hp8
   have f1 := HN.out.free p1
   have HN' : Hid (Full (w7.setCell ⟨lb, p1, none⟩ (.int .u64 (R i % Q))) lb N (sett8 (sett8 (eI E Rr n i) i ((O i + 1) % Q)) p1 (R i % Q))) := HN.out.set p1 (R i % Q)
   have HO' : Hid (Old W (w7.setCell ⟨lb, p1, none⟩ (.int .u64 (R i % Q)))) := HO.out.setCell (p := ⟨lb, p1, none⟩) Hlb.out _
   clear HN HO HP
   go_upto_region 14 with fail
   clear q1 f1
   have HN : Hid (Full (w7.setCell ⟨lb, p1, none⟩ (.int .u64 (R i % Q))) lb N (sett8 (sett8 (eI E Rr n i) i ((O i + 1) % Q)) p1 (R i % Q))) := HN'
   have HO : Hid (Old W (w7.setCell ⟨lb, p1, none⟩ (.int .u64 (R i % Q)))) := HO'
   clear HN' HO'
   generalize w7.setCell ⟨lb, p1, none⟩ (.int .u64 (R i % Q)) = w8 at *
   obtain ⟨p2, hp2⟩ : ∃ p2, p2 = 2 * n + i := ⟨_, rfl⟩
   clear hp8
   have hp8 : p2 < N := by have := HNN.out; omega
   have e1 : IntKind.i64.wrap (2 * (n : Int)) = 2 * (n : Int) := by rw [IntKind.wrap_i64]; omega
   have e2 : IntKind.i64.wrap (2 * (n : Int) + (i : Int)) = (p2 : Int) := wi8 _ p2 (by omega) (by omega)
   have Hp2 : Hid (p2 = 2 * n + i) := hp2
   clear hp2
   have q1 := HN.out.cell p2 hp8
   have f1 := HN.out.free p2
   have HN' : Hid (Full (w8.setCell ⟨lb, p2, none⟩ (.int .u64 (bE i))) lb N (sett8 (sett8 (sett8 (eI E Rr n i) i ((O i + 1) % Q)) p1 (R i % Q)) p2 (bE i))) := HN.out.set p2 (bE i)
   have HO' : Hid (Old W (w8.setCell ⟨lb, p2, none⟩ (.int .u64 (bE i)))) := HO.out.setCell (p := ⟨lb, p2, none⟩) Hlb.out _
   clear HN HO
   go_upto_region 15 with fail
   clear q1 f1 e1 e2
   have HN : Hid (Full (w8.setCell ⟨lb, p2, none⟩ (.int .u64 (bE i))) lb N (sett8 (sett8 (sett8 (eI E Rr n i) i ((O i + 1) % Q)) p1 (R i % Q)) p2 (bE i))) := HN'
   have HO : Hid (Old W (w8.setCell ⟨lb, p2, none⟩ (.int .u64 (bE i)))) := HO'
   clear HN' HO'
   generalize w8.setCell ⟨lb, p2, none⟩ (.int .u64 (bE i)) = w9 at *
   have HGx : Hid (∀ wx, Old w9 wx -> wx.heap[gb]? = some (.cells (gc P Q G H a m cap) 25 (0, 0))) := fun wx hx => HG.out _ (HO.out.trans hx)
   have HTx : Hid (∀ wx, Old w9 wx -> wx.heap[gb + 1]? = some (.cells (tkc ba na ca X bb nb cb Y Z bp np cp) 41 (0, 0))) := fun wx hx => HTk.out _ (HO.out.trans hx)
   have HDx : Hid (∀ wx, Old w9 wx -> wx.heap[gb + 1 + 1]? = some (.cells (dvc (some ⟨hb, ho, none⟩) n cρ (some ⟨rb, ro, none⟩) n cR (some ⟨sb, so, none⟩) n cS (some ⟨tb, tof, none⟩) n cT bD nD cD) 31 (0, 0))) := fun wx hx => HDr.out _ (HO.out.trans hx)
   have HOi : Hid (∀ wx, Old w9 wx -> wx.cell? ⟨bo, oo + i, none⟩ = some (.int .i64 (O i))) := fun wx hx => HOc.out wx i hlt2 (HO.out.trans hx)
   have HRi : Hid (∀ wx, Old w9 wx -> wx.cell? ⟨rb, ro + i, none⟩ = some (.int .u64 (R i))) := fun wx hx => HRc.out wx i hlt2 (HO.out.trans hx)
   have HSi : Hid (∀ wx, Old w9 wx -> wx.cell? ⟨sb, so + i, none⟩ = some (.int .u64 (S i))) := fun wx hx => HSc.out wx i hlt2 (HO.out.trans hx)
   have HTi : Hid (∀ wx, Old w9 wx -> wx.cell? ⟨tb, tof + i, none⟩ = some (.int .u64 (T i))) := fun wx hx => HTc.out wx i hlt2 (HO.out.trans hx)
   obtain ⟨m3, hm3⟩ : ∃ m3, m3 = 3 * n := ⟨_, rfl⟩
   obtain ⟨p3, hp3⟩ : ∃ p3, p3 = 3 * n + i := ⟨_, rfl⟩
   clear hp8
   have hp8 : p3 < N := by have := HNN.out; omega
   have HM : Hid (Value.int .i64 (IntKind.i64.wrap (3 * (n : Int))) = .int .i64 (m3 : Int)) := vi8 _ m3 (by omega) (by omega)
   have HP : Hid (Value.int .i64 (IntKind.i64.wrap ((m3 : Int) + (i : Int))) = .int .i64 (p3 : Int)) := vi8 _ p3 (by omega) (by omega)
   clear hm3
   have Hp3 : Hid (p3 = 3 * n + i) := hp3
   clear hp3
   refine wp_region_tabz 14 [.k (.slice (some ⟨lb, 0, none⟩) N N), .k (.int .i64 (n : Int)), .k (.int .i64 (m3 : Int)), .k (.int .i64 (i : Int)), .k (.int .i64 (p3 : Int)), .k (.pointer (some ⟨gb + 1 + 1, 2, none⟩)), .k (.slice (some ⟨sb, so, none⟩) n cS), .k (.int .i64 (i : Int)), .k (.pointer (some ⟨sb, so + i, none⟩)), .k (.int .u64 (S i)), .k (.pointer (some ⟨gb, 1, none⟩)), .k (.int .u64 Q), .k (.int .u64 (S i % Q)), .k (.pointer (some ⟨lb, p3, none⟩))] (Old w9) (by kernel_rfl) (by kernel_rfl) rfl ((Old.refl _).drew) ?st ?_
   case st =>
    refine .c stpz <| .c stpz <| .c (stvz HM.out) <| .c stpz <| .c (stvz HP.out) <| .c stpz <| .c (stfz 2 Tryz.underlying29 HDx.out) <| .c stpz <| .c (stiz (n := n) (c := cS) hlt2 Tryz.underlying29) <| .c (stlz Tryz.underlying22 HSi.out) <| .c stpz <| .c (stfz 1 Tryz.underlying22 HGx.out) <| .c (strz HEr.out.2.1.1 HQ.out) <| .c (sti0z (n := N) (c := N) hp8 Tryz.underlying29) .n
   intro t wa hR hk
   simp only [fill, Ent.val, List.set_cons_zero, List.set_cons_succ, List.drop_succ_cons, List.drop_zero, List.drop_nil]
   have HN' : Hid (Full wa lb N _) := HN.out.old hR
   have HO' : Hid (Old W wa) := HO.out.trans hR
   clear HN HO hR hk HGx HTx HDx HOi HRi HSi HTi
   have HN := HN'
   have HO := HO'
   clear HN' HO'
   have q1 := HN.out.cell p3 hp8
   have f1 := HN.out.free p3
   have HN' : Hid (Full (wa.setCell ⟨lb, p3, none⟩ (.int .u64 (S i % Q))) lb N (sett8 (sett8 (sett8 (sett8 (eI E Rr n i) i ((O i + 1) % Q)) p1 (R i % Q)) p2 (bE i)) p3 (S i % Q))) := HN.out.set p3 (S i % Q)
   have HO' : Hid (Old W (wa.setCell ⟨lb, p3, none⟩ (.int .u64 (S i % Q)))) := HO.out.setCell (p := ⟨lb, p3, none⟩) Hlb.out _
   clear HN HO HP HM
   go_upto_region 16 with fail
   clear q1 f1
   have HN : Hid (Full (wa.setCell ⟨lb, p3, none⟩ (.int .u64 (S i % Q))) lb N (sett8 (sett8 (sett8 (sett8 (eI E Rr n i) i ((O i + 1) % Q)) p1 (R i % Q)) p2 (bE i)) p3 (S i % Q))) := HN'
   have HO : Hid (Old W (wa.setCell ⟨lb, p3, none⟩ (.int .u64 (S i % Q)))) := HO'
   clear HN' HO'
   generalize wa.setCell ⟨lb, p3, none⟩ (.int .u64 (S i % Q)) = wb at *
   obtain ⟨p4, hp4⟩ : ∃ p4, p4 = 4 * n + i := ⟨_, rfl⟩
   clear hp8
   have hp8 : p4 < N := by have := HNN.out; omega
   have e1 : IntKind.i64.wrap (4 * (n : Int)) = 4 * (n : Int) := by rw [IntKind.wrap_i64]; omega
   have e2 : IntKind.i64.wrap (4 * (n : Int) + (i : Int)) = (p4 : Int) := wi8 _ p4 (by omega) (by omega)
   have Hp4 : Hid (p4 = 4 * n + i) := hp4
   clear hp4
   have q1 := HN.out.cell p4 hp8
   have f1 := HN.out.free p4
   have HN' : Hid (Full (wb.setCell ⟨lb, p4, none⟩ (.int .u64 (dE i))) lb N (sett8 (sett8 (sett8 (sett8 (sett8 (eI E Rr n i) i ((O i + 1) % Q)) p1 (R i % Q)) p2 (bE i)) p3 (S i % Q)) p4 (dE i))) := HN.out.set p4 (dE i)
   have HO' : Hid (Old W (wb.setCell ⟨lb, p4, none⟩ (.int .u64 (dE i)))) := HO.out.setCell (p := ⟨lb, p4, none⟩) Hlb.out _
   clear HN HO
   go_upto_region 17 with fail
   clear q1 f1 e1 e2
   have HN : Hid (Full (wb.setCell ⟨lb, p4, none⟩ (.int .u64 (dE i))) lb N (sett8 (sett8 (sett8 (sett8 (sett8 (eI E Rr n i) i ((O i + 1) % Q)) p1 (R i % Q)) p2 (bE i)) p3 (S i % Q)) p4 (dE i))) := HN'
   have HO : Hid (Old W (wb.setCell ⟨lb, p4, none⟩ (.int .u64 (dE i)))) := HO'
   clear HN' HO'
   generalize wb.setCell ⟨lb, p4, none⟩ (.int .u64 (dE i)) = wc at *
   obtain ⟨p5, hp5⟩ : ∃ p5, p5 = 5 * n + i := ⟨_, rfl⟩
   clear hp8
   have hp8 : p5 < N := by have := HNN.out; omega
   have e1 : IntKind.i64.wrap (5 * (n : Int)) = 5 * (n : Int) := by rw [IntKind.wrap_i64]; omega
   have e2 : IntKind.i64.wrap (5 * (n : Int) + (i : Int)) = (p5 : Int) := wi8 _ p5 (by omega) (by omega)
   have Hp5 : Hid (p5 = 5 * n + i) := hp5
   clear hp5
   have q1 := HN.out.cell p5 hp8
   have f1 := HN.out.free p5
   have HN' : Hid (Full (wc.setCell ⟨lb, p5, none⟩ (.int .u64 (uE i))) lb N (sett8 (sett8 (sett8 (sett8 (sett8 (sett8 (eI E Rr n i) i ((O i + 1) % Q)) p1 (R i % Q)) p2 (bE i)) p3 (S i % Q)) p4 (dE i)) p5 (uE i))) := HN.out.set p5 (uE i)
   have HO' : Hid (Old W (wc.setCell ⟨lb, p5, none⟩ (.int .u64 (uE i)))) := HO.out.setCell (p := ⟨lb, p5, none⟩) Hlb.out _
   clear HN HO
   go_upto_region 18 with fail
   clear q1 f1 e1 e2
   have HN : Hid (Full (wc.setCell ⟨lb, p5, none⟩ (.int .u64 (uE i))) lb N (sett8 (sett8 (sett8 (sett8 (sett8 (sett8 (eI E Rr n i) i ((O i + 1) % Q)) p1 (R i % Q)) p2 (bE i)) p3 (S i % Q)) p4 (dE i)) p5 (uE i))) := HN'
   have HO : Hid (Old W (wc.setCell ⟨lb, p5, none⟩ (.int .u64 (uE i)))) := HO'
   clear HN' HO'
   generalize wc.setCell ⟨lb, p5, none⟩ (.int .u64 (uE i)) = wd at *
   have HM6 : Hid (Full wd lb N (midI E Rr n i)) := by
    have h := HN.out
    obtain ⟨a0, a1, a2, a3, a4, a5, _⟩ := HEa.out i hlt2
    unfold Hid midI
    rw [a0, a1, a2, a3, a4, a5, <- Hp1.out, <- Hp2.out, <- Hp3.out, <- Hp4.out, <- Hp5.out]
    exact h
   clear HN Hp1 Hp2 Hp3 Hp4 Hp5 hp8 hi8
   have HN := HM6
   clear HM6
   have HH3 : Hid (∀ wx c, c < 3 -> Old W wx -> wx.cell? ⟨hb, ho + i * 3 + c, none⟩ = some (.int .u64 (Rh i c))) := fun wx c hc hx => HHc.out wx i c hlt2 hc hx
   by_cases hi0 : i = 0
   · have HNh : Hid (Full wd lb N (eH E Rr n i 0)) := HN.out.congr fun k hk => by rw [hi0]; exact midI_zero h1
    have HVv : Hid (uE i = vP (i + 1)) := by unfold Hid; rw [hi0]; exact HV0.out.symm
    have hi0' : (i : Int) = 0 := by omega
    clear HN hi0
    go_upto_region 20 with fail
    clear hi0'
    go_upto_region 23 with fail
    go_loopw [16] (fun kv wx => ∃ c : Nat, kv = .int .i64 (c : Int) /\ c <= 3 /\ Hid (Full wx lb N (eH E Rr n i c)) /\ Hid (Old W wx)) (fun kv _ => 3 - (intOf kv).toNat)
    case atStart => exact ⟨0, rfl, Nat.zero_le _, HNh, HO⟩
    case round =>
     obtain ⟨c, rfl, hc, HN, HO⟩ := hrel
     by_cases hcl : c < 3
     · have hcl2 : c < 3 := hcl
      have hcl3 : (c : Int) < 3 := by omega
      obtain ⟨m7, hm7⟩ : ∃ m7, m7 = 7 * n := ⟨_, rfl⟩
      obtain ⟨p7, hp7⟩ : ∃ p7, p7 = 7 * n + c := ⟨_, rfl⟩
      have hp8 : p7 < N := by have := HNN.out; omega
      have HM : Hid (Value.int .i64 (IntKind.i64.wrap (7 * (n : Int))) = .int .i64 (m7 : Int)) := vi8 _ m7 (by omega) (by omega)
      have HP : Hid (Value.int .i64 (IntKind.i64.wrap ((m7 : Int) + (c : Int))) = .int .i64 (p7 : Int)) := vi8 _ p7 (by omega) (by omega)
      have Hp7 : Hid (p7 = 7 * n + c) := hp7
      have HLc : Hid (∀ wx, Old wr wx -> wx.cell? ⟨lb, p7, none⟩ = some (.int .u64 (Rr c i))) := fun wx hx => by
       have h := (HN.out.old hx).cell p7 hp8
       rw [Hp7.out, eH_at, <- Hp7.out] at h
       exact h
      clear hm7 hp7
      go_upto_region 25 with fail
      have HGx : Hid (∀ wx, Old wr wx -> wx.heap[gb]? = some (.cells (gc P Q G H a m cap) 25 (0, 0))) := fun wx hx => HG.out _ (HO.out.trans hx)
      have HDx : Hid (∀ wx, Old wr wx -> wx.heap[gb + 1 + 1]? = some (.cells (dvc (some ⟨hb, ho, none⟩) n cρ (some ⟨rb, ro, none⟩) n cR (some ⟨sb, so, none⟩) n cS (some ⟨tb, tof, none⟩) n cT bD nD cD) 31 (0, 0))) := fun wx hx => HDr.out _ (HO.out.trans hx)
      have HHx : Hid (∀ wx, Old wr wx -> wx.cell? ⟨hb, ho + i * 3 + c, none⟩ = some (.int .u64 (Rh i c))) := fun wx hx => HH3.out wx c hcl2 (HO.out.trans hx)
      have HCs : Hid (∀ wx, Calls Tryz.prog 78 #[.int .u64 (Rr c i), .int .u64 (mulI (bE i) (Rh i c) Q), .int .u64 Q] wx (Ret wx (.int .u64 (Rr c (i + 1))))) := fun wx => by rw [HRn.out]; exact srsub_any _ _ Q (HRu.out _ _) (u64_mul _ _ _) wx
      refine wp_region_tabz 27 [.k (.slice (some ⟨lb, 0, none⟩) N N), .k (.int .i64 (n : Int)), .k (.int .i64 (m7 : Int)), .k (.int .i64 (c : Int)), .k (.int .i64 (p7 : Int)), .k (.slice (some ⟨lb, 0, none⟩) N N), .k (.int .i64 (n : Int)), .k (.int .i64 (m7 : Int)), .k (.int .i64 (c : Int)), .k (.int .i64 (p7 : Int)), .k (.pointer (some ⟨lb, p7, none⟩)), .k (.int .u64 (Rr c i)), .k (.int .u64 (bE i)), .k (.pointer (some ⟨gb + 1 + 1, 0, none⟩)), .k (.slice (some ⟨hb, ho, none⟩) n cρ), .k (.int .i64 (i : Int)), .k (.int .i64 (c : Int)), .k (.pointer (some ⟨hb, ho + i * 3, none⟩)), .k (.pointer (some ⟨hb, ho + i * 3 + c, none⟩)), .k (.int .u64 (Rh i c)), .k (.pointer (some ⟨gb, 1, none⟩)), .k (.int .u64 Q), .k (.int .u64 (mulI (bE i) (Rh i c) Q)), .k (.pointer (some ⟨gb, 1, none⟩)), .k (.int .u64 Q), .k (.int .u64 (Rr c (i + 1))), .k (.pointer (some ⟨lb, p7, none⟩))] (Old wr) (by kernel_rfl) (by kernel_rfl) rfl ((Old.refl _).drew) ?st ?_
      case st =>
       refine .c stpz <| .c stpz <| .c (stvz HM.out) <| .c stpz <| .c (stvz HP.out) <| .c stpz <| .c stpz <| .c (stvz HM.out) <| .c stpz <| .c (stvz HP.out) <| .c (sti0z (n := N) (c := N) hp8 Tryz.underlying29) <| .c (stlz Tryz.underlying22 HLc.out) <| .c stpz <| .c stpz <| .c (stfz 0 Tryz.underlying28 HDx.out) <| .c stpz <| .c stpz <| .c (stjz (n := n) (c := cρ) 3 hlt2 Tryz.underlying28) <| .c (saiz hcl2 Tryz.underlying63) <| .c (stlz Tryz.underlying22 HHx.out) <| .c stpz <| .c (stfz 1 Tryz.underlying22 HGx.out) <| .c (stKz old_R Tryz.func70 (fun wx _ => srmul_any _ _ Q (HbU.out i) (HRhu.out i c hlt2 hcl2) wx)) <| .c stpz <| .c (stfz 1 Tryz.underlying22 HGx.out) <| .c (stKz old_R Tryz.func78 (fun wx _ => HCs.out wx)) <| .c (sti0z (n := N) (c := N) hp8 Tryz.underlying29) .n
      intro t wy hR hk
      simp only [fill, Ent.val, List.set_cons_zero, List.set_cons_succ, List.drop_succ_cons, List.drop_zero, List.drop_nil]
      have HNy := HN.out.old hR
      have HOy : Hid (Old W wy) := HO.out.trans hR
      have q1 := HNy.cell p7 hp8
      have f1 := HNy.free p7
      have HN2 : Hid (Full (wy.setCell ⟨lb, p7, none⟩ (.int .u64 (Rr c (i + 1)))) lb N (eH E Rr n i (c + 1))) := (HNy.set p7 (Rr c (i + 1))).congr fun k hk => by
       have h := eH_next (E := E) (Rr := Rr) (n := n) (i := i) (k := k) (c := c)
       rw [Hp7.out]
       exact h
      have HO2 : Hid (Old W (wy.setCell ⟨lb, p7, none⟩ (.int .u64 (Rr c (i + 1))))) := HOy.out.setCell (p := ⟨lb, p7, none⟩) Hlb.out _
      clear HNy HOy hR hk HN HO HGx HDx HHx HCs HLc HM HP
      go_wp2_with fail
      go_roundw
      case rel => exact ⟨c + 1, idx_next c, by omega, HN2, HO2⟩
      case measure => simp [intOf]; omega
     · have hc3 : c = 3 := by omega
      subst hc3
      have HNe : Hid (Full wr lb N (eI E Rr n (i + 1))) := HN.out.congr fun k hk => eH_done (by have := HNN.out; omega)
      clear HN
      go_wp2_with fail
      go_roundw
      case rel => exact ⟨i + 1, idx_next i, by omega, by rw [HVv.out], HNe, HO⟩
      case measure => simp [intOf]; omega
   · have hi1 : 0 < i := by omega
    have hi0' : ¬ (i : Int) = 0 := by omega
    clear hi0
    go_upto_region 20 with fail
    clear hi0'
    have HGx : Hid (∀ wx, Old wd wx -> wx.heap[gb]? = some (.cells (gc P Q G H a m cap) 25 (0, 0))) := fun wx hx => HG.out _ (HO.out.trans hx)
    have HTx : Hid (∀ wx, Old wd wx -> wx.heap[gb + 1]? = some (.cells (tkc ba na ca X bb nb cb Y Z bp np cp) 41 (0, 0))) := fun wx hx => HTk.out _ (HO.out.trans hx)
    have HDx : Hid (∀ wx, Old wd wx -> wx.heap[gb + 1 + 1]? = some (.cells (dvc (some ⟨hb, ho, none⟩) n cρ (some ⟨rb, ro, none⟩) n cR (some ⟨sb, so, none⟩) n cS (some ⟨tb, tof, none⟩) n cT bD nD cD) 31 (0, 0))) := fun wx hx => HDr.out _ (HO.out.trans hx)
    have HOi : Hid (∀ wx, Old wd wx -> wx.cell? ⟨bo, oo + i, none⟩ = some (.int .i64 (O i))) := fun wx hx => HOc.out wx i hlt2 (HO.out.trans hx)
    have HRi : Hid (∀ wx, Old wd wx -> wx.cell? ⟨rb, ro + i, none⟩ = some (.int .u64 (R i))) := fun wx hx => HRc.out wx i hlt2 (HO.out.trans hx)
    have HSi : Hid (∀ wx, Old wd wx -> wx.cell? ⟨sb, so + i, none⟩ = some (.int .u64 (S i))) := fun wx hx => HSc.out wx i hlt2 (HO.out.trans hx)
    have HTi : Hid (∀ wx, Old wd wx -> wx.cell? ⟨tb, tof + i, none⟩ = some (.int .u64 (T i))) := fun wx hx => HTc.out wx i hlt2 (HO.out.trans hx)
    have HCv : Hid (∀ wx, Calls Tryz.prog 77 #[.int .u64 (mulI (vP i) (dE i) Q), .int .u64 (T i), .int .u64 Q] wx (Ret wx (.int .u64 (vP (i + 1))))) := fun wx => by rw [HVn.out i hi1]; exact sradd_any _ _ Q (u64_mul _ _ _) HEr.out.2.2 wx
    refine wp_region_tabz 13 [.k (.int .u64 (vP i)), .k (.int .u64 (dE i)), .k (.pointer (some ⟨gb, 1, none⟩)), .k (.int .u64 Q), .k (.int .u64 (mulI (vP i) (dE i) Q)), .k (.pointer (some ⟨gb + 1 + 1, 3, none⟩)), .k (.slice (some ⟨tb, tof, none⟩) n cT), .k (.int .i64 (i : Int)), .k (.pointer (some ⟨tb, tof + i, none⟩)), .k (.int .u64 (T i)), .k (.pointer (some ⟨gb, 1, none⟩)), .k (.int .u64 Q), .k (.int .u64 (vP (i + 1)))] (Old wd) (by kernel_rfl) (by kernel_rfl) rfl ((Old.refl _).drew) ?st ?_
    case st =>
     refine .c stpz <| .c stpz <| .c stpz <| .c (stfz 1 Tryz.underlying22 HGx.out) <| .c (stKz old_R Tryz.func70 (fun wx _ => srmul_any _ _ Q (HVu.out i) (HdU.out i) wx)) <| .c stpz <| .c (stfz 3 Tryz.underlying29 HDx.out) <| .c stpz <| .c (stiz (n := n) (c := cT) hlt2 Tryz.underlying29) <| .c (stlz Tryz.underlying22 HTi.out) <| .c stpz <| .c (stfz 1 Tryz.underlying22 HGx.out) <| .c (stKz old_R Tryz.func77 (fun wx _ => HCv.out wx)) .n
    intro t we hR hk
    simp only [fill, Ent.val, List.set_cons_zero, List.set_cons_succ, List.drop_succ_cons, List.drop_zero, List.drop_nil]
    go_upto_region 21 with fail
    have HN' : Hid (Full we lb N _) := HN.out.old hR
    have HO' : Hid (Old W we) := HO.out.trans hR
    clear HN HO hR hk HGx HTx HDx HOi HRi HSi HTi HCv
    have HN := HN'
    have HO := HO'
    clear HN' HO'
    have HGx : Hid (∀ wx, Old we wx -> wx.heap[gb]? = some (.cells (gc P Q G H a m cap) 25 (0, 0))) := fun wx hx => HG.out _ (HO.out.trans hx)
    have HTx : Hid (∀ wx, Old we wx -> wx.heap[gb + 1]? = some (.cells (tkc ba na ca X bb nb cb Y Z bp np cp) 41 (0, 0))) := fun wx hx => HTk.out _ (HO.out.trans hx)
    have HDx : Hid (∀ wx, Old we wx -> wx.heap[gb + 1 + 1]? = some (.cells (dvc (some ⟨hb, ho, none⟩) n cρ (some ⟨rb, ro, none⟩) n cR (some ⟨sb, so, none⟩) n cS (some ⟨tb, tof, none⟩) n cT bD nD cD) 31 (0, 0))) := fun wx hx => HDr.out _ (HO.out.trans hx)
    have HOi : Hid (∀ wx, Old we wx -> wx.cell? ⟨bo, oo + i, none⟩ = some (.int .i64 (O i))) := fun wx hx => HOc.out wx i hlt2 (HO.out.trans hx)
    have HRi : Hid (∀ wx, Old we wx -> wx.cell? ⟨rb, ro + i, none⟩ = some (.int .u64 (R i))) := fun wx hx => HRc.out wx i hlt2 (HO.out.trans hx)
    have HSi : Hid (∀ wx, Old we wx -> wx.cell? ⟨sb, so + i, none⟩ = some (.int .u64 (S i))) := fun wx hx => HSc.out wx i hlt2 (HO.out.trans hx)
    have HTi : Hid (∀ wx, Old we wx -> wx.cell? ⟨tb, tof + i, none⟩ = some (.int .u64 (T i))) := fun wx hx => HTc.out wx i hlt2 (HO.out.trans hx)
    obtain ⟨m6, hm6⟩ : ∃ m6, m6 = 6 * n := ⟨_, rfl⟩
    obtain ⟨q6, hq6⟩ : ∃ q6, q6 = 6 * n + i := ⟨_, rfl⟩
    obtain ⟨p6, hp6⟩ : ∃ p6, p6 = 6 * n + i - 1 := ⟨_, rfl⟩
    have hp8 : p6 < N := by have := HNN.out; omega
    have HM : Hid (Value.int .i64 (IntKind.i64.wrap (6 * (n : Int))) = .int .i64 (m6 : Int)) := vi8 _ m6 (by omega) (by omega)
    have HQ6 : Hid (Value.int .i64 (IntKind.i64.wrap ((m6 : Int) + (i : Int))) = .int .i64 (q6 : Int)) := vi8 _ q6 (by omega) (by omega)
    have HP : Hid (Value.int .i64 (IntKind.i64.wrap ((q6 : Int) - 1)) = .int .i64 (p6 : Int)) := vi8 _ p6 (by omega) (by omega)
    clear hm6 hq6
    have Hp6 : Hid (p6 = 6 * n + i - 1) := hp6
    clear hp6
    refine wp_region_tabz 15 [.k (.slice (some ⟨lb, 0, none⟩) N N), .k (.int .i64 (n : Int)), .k (.int .i64 (m6 : Int)), .k (.int .i64 (i : Int)), .k (.int .i64 (q6 : Int)), .k (.int .i64 (p6 : Int)), .k (.pointer (some ⟨gb + 1 + 1, 3, none⟩)), .k (.slice (some ⟨tb, tof, none⟩) n cT), .k (.int .i64 (i : Int)), .k (.pointer (some ⟨tb, tof + i, none⟩)), .k (.int .u64 (T i)), .k (.pointer (some ⟨gb, 1, none⟩)), .k (.int .u64 Q), .k (.int .u64 (T i % Q)), .k (.pointer (some ⟨lb, p6, none⟩))] (Old we) (by kernel_rfl) (by kernel_rfl) rfl ((Old.refl _).drew) ?st ?_
    case st =>
     refine .c stpz <| .c stpz <| .c (stvz HM.out) <| .c stpz <| .c (stvz HQ6.out) <| .c (stvz HP.out) <| .c stpz <| .c (stfz 3 Tryz.underlying29 HDx.out) <| .c stpz <| .c (stiz (n := n) (c := cT) hlt2 Tryz.underlying29) <| .c (stlz Tryz.underlying22 HTi.out) <| .c stpz <| .c (stfz 1 Tryz.underlying22 HGx.out) <| .c (strz HEr.out.2.2.1 HQ.out) <| .c (sti0z (n := N) (c := N) hp8 Tryz.underlying29) .n
    intro t wf hR hk
    simp only [fill, Ent.val, List.set_cons_zero, List.set_cons_succ, List.drop_succ_cons, List.drop_zero, List.drop_nil]
    have HN' : Hid (Full wf lb N _) := HN.out.old hR
    have HO' : Hid (Old W wf) := HO.out.trans hR
    clear HN HO hR hk HGx HTx HDx HOi HRi HSi HTi
    have HN := HN'
    have HO := HO'
    clear HN' HO'
    have q1 := HN.out.cell p6 hp8
    have f1 := HN.out.free p6
    have HN' : Hid (Full (wf.setCell ⟨lb, p6, none⟩ (.int .u64 (T i % Q))) lb N (sett8 (midI E Rr n i) p6 (T i % Q))) := HN.out.set p6 (T i % Q)
    have HO' : Hid (Old W (wf.setCell ⟨lb, p6, none⟩ (.int .u64 (T i % Q)))) := HO.out.setCell (p := ⟨lb, p6, none⟩) Hlb.out _
    clear HN HO HP HQ6 HM
    go_upto_region 22 with fail
    clear q1 f1
    have HN : Hid (Full (wf.setCell ⟨lb, p6, none⟩ (.int .u64 (T i % Q))) lb N (sett8 (midI E Rr n i) p6 (T i % Q))) := HN'
    have HO : Hid (Old W (wf.setCell ⟨lb, p6, none⟩ (.int .u64 (T i % Q)))) := HO'
    clear HN' HO'
    generalize wf.setCell ⟨lb, p6, none⟩ (.int .u64 (T i % Q)) = wg at *
    have HNh : Hid (Full wg lb N (eH E Rr n i 0)) := HN.out.congr fun k hk => by
     have h := midI_pos (E := E) (Rr := Rr) (k := k) hlt2 hi1
     rw [(HEa.out i hlt2).2.2.2.2.2.2 hi1, <- Hp6.out] at h
     exact h
    clear HN Hp6 hp8
    go_upto_region 23 with fail
    go_loopw [16] (fun kv wx => ∃ c : Nat, kv = .int .i64 (c : Int) /\ c <= 3 /\ Hid (Full wx lb N (eH E Rr n i c)) /\ Hid (Old W wx)) (fun kv _ => 3 - (intOf kv).toNat)
    case atStart => exact ⟨0, rfl, Nat.zero_le _, HNh, HO⟩
    case round =>
     obtain ⟨c, rfl, hc, HN, HO⟩ := hrel
     by_cases hcl : c < 3
     · have hcl2 : c < 3 := hcl
      have hcl3 : (c : Int) < 3 := by omega
      obtain ⟨m7, hm7⟩ : ∃ m7, m7 = 7 * n := ⟨_, rfl⟩
      obtain ⟨p7, hp7⟩ : ∃ p7, p7 = 7 * n + c := ⟨_, rfl⟩
      have hp8 : p7 < N := by have := HNN.out; omega
      have HM : Hid (Value.int .i64 (IntKind.i64.wrap (7 * (n : Int))) = .int .i64 (m7 : Int)) := vi8 _ m7 (by omega) (by omega)
      have HP : Hid (Value.int .i64 (IntKind.i64.wrap ((m7 : Int) + (c : Int))) = .int .i64 (p7 : Int)) := vi8 _ p7 (by omega) (by omega)
      have Hp7 : Hid (p7 = 7 * n + c) := hp7
      have HLc : Hid (∀ wx, Old wr wx -> wx.cell? ⟨lb, p7, none⟩ = some (.int .u64 (Rr c i))) := fun wx hx => by
       have h := (HN.out.old hx).cell p7 hp8
       rw [Hp7.out, eH_at, <- Hp7.out] at h
       exact h
      clear hm7 hp7
      go_upto_region 25 with fail
      have HGx : Hid (∀ wx, Old wr wx -> wx.heap[gb]? = some (.cells (gc P Q G H a m cap) 25 (0, 0))) := fun wx hx => HG.out _ (HO.out.trans hx)
      have HDx : Hid (∀ wx, Old wr wx -> wx.heap[gb + 1 + 1]? = some (.cells (dvc (some ⟨hb, ho, none⟩) n cρ (some ⟨rb, ro, none⟩) n cR (some ⟨sb, so, none⟩) n cS (some ⟨tb, tof, none⟩) n cT bD nD cD) 31 (0, 0))) := fun wx hx => HDr.out _ (HO.out.trans hx)
      have HHx : Hid (∀ wx, Old wr wx -> wx.cell? ⟨hb, ho + i * 3 + c, none⟩ = some (.int .u64 (Rh i c))) := fun wx hx => HH3.out wx c hcl2 (HO.out.trans hx)
      have HCs : Hid (∀ wx, Calls Tryz.prog 78 #[.int .u64 (Rr c i), .int .u64 (mulI (bE i) (Rh i c) Q), .int .u64 Q] wx (Ret wx (.int .u64 (Rr c (i + 1))))) := fun wx => by rw [HRn.out]; exact srsub_any _ _ Q (HRu.out _ _) (u64_mul _ _ _) wx
      refine wp_region_tabz 27 [.k (.slice (some ⟨lb, 0, none⟩) N N), .k (.int .i64 (n : Int)), .k (.int .i64 (m7 : Int)), .k (.int .i64 (c : Int)), .k (.int .i64 (p7 : Int)), .k (.slice (some ⟨lb, 0, none⟩) N N), .k (.int .i64 (n : Int)), .k (.int .i64 (m7 : Int)), .k (.int .i64 (c : Int)), .k (.int .i64 (p7 : Int)), .k (.pointer (some ⟨lb, p7, none⟩)), .k (.int .u64 (Rr c i)), .k (.int .u64 (bE i)), .k (.pointer (some ⟨gb + 1 + 1, 0, none⟩)), .k (.slice (some ⟨hb, ho, none⟩) n cρ), .k (.int .i64 (i : Int)), .k (.int .i64 (c : Int)), .k (.pointer (some ⟨hb, ho + i * 3, none⟩)), .k (.pointer (some ⟨hb, ho + i * 3 + c, none⟩)), .k (.int .u64 (Rh i c)), .k (.pointer (some ⟨gb, 1, none⟩)), .k (.int .u64 Q), .k (.int .u64 (mulI (bE i) (Rh i c) Q)), .k (.pointer (some ⟨gb, 1, none⟩)), .k (.int .u64 Q), .k (.int .u64 (Rr c (i + 1))), .k (.pointer (some ⟨lb, p7, none⟩))] (Old wr) (by kernel_rfl) (by kernel_rfl) rfl ((Old.refl _).drew) ?st ?_
      case st =>
       refine .c stpz <| .c stpz <| .c (stvz HM.out) <| .c stpz <| .c (stvz HP.out) <| .c stpz <| .c stpz <| .c (stvz HM.out) <| .c stpz <| .c (stvz HP.out) <| .c (sti0z (n := N) (c := N) hp8 Tryz.underlying29) <| .c (stlz Tryz.underlying22 HLc.out) <| .c stpz <| .c stpz <| .c (stfz 0 Tryz.underlying28 HDx.out) <| .c stpz <| .c stpz <| .c (stjz (n := n) (c := cρ) 3 hlt2 Tryz.underlying28) <| .c (saiz hcl2 Tryz.underlying63) <| .c (stlz Tryz.underlying22 HHx.out) <| .c stpz <| .c (stfz 1 Tryz.underlying22 HGx.out) <| .c (stKz old_R Tryz.func70 (fun wx _ => srmul_any _ _ Q (HbU.out i) (HRhu.out i c hlt2 hcl2) wx)) <| .c stpz <| .c (stfz 1 Tryz.underlying22 HGx.out) <| .c (stKz old_R Tryz.func78 (fun wx _ => HCs.out wx)) <| .c (sti0z (n := N) (c := N) hp8 Tryz.underlying29) .n
      intro t wy hR hk
      simp only [fill, Ent.val, List.set_cons_zero, List.set_cons_succ, List.drop_succ_cons, List.drop_zero, List.drop_nil]
      have HNy := HN.out.old hR
      have HOy : Hid (Old W wy) := HO.out.trans hR
      have q1 := HNy.cell p7 hp8
      have f1 := HNy.free p7
      have HN2 : Hid (Full (wy.setCell ⟨lb, p7, none⟩ (.int .u64 (Rr c (i + 1)))) lb N (eH E Rr n i (c + 1))) := (HNy.set p7 (Rr c (i + 1))).congr fun k hk => by
       have h := eH_next (E := E) (Rr := Rr) (n := n) (i := i) (k := k) (c := c)
       rw [Hp7.out]
       exact h
      have HO2 : Hid (Old W (wy.setCell ⟨lb, p7, none⟩ (.int .u64 (Rr c (i + 1))))) := HOy.out.setCell (p := ⟨lb, p7, none⟩) Hlb.out _
      clear HNy HOy hR hk HN HO HGx HDx HHx HCs HLc HM HP
      go_wp2_with fail
      go_roundw
      case rel => exact ⟨c + 1, idx_next c, by omega, HN2, HO2⟩
      case measure => simp [intOf]; omega
     · have hc3 : c = 3 := by omega
      subst hc3
      have HNe : Hid (Full wr lb N (eI E Rr n (i + 1))) := HN.out.congr fun k hk => eH_done (by have := HNN.out; omega)
      clear HN
      go_wp2_with fail
      go_roundw
      case rel => exact ⟨i + 1, idx_next i, by omega, rfl, HNe, HO⟩
      case measure => simp [intOf]; omega
  · have he : n = i := by omega
   subst he
   have hN3 : N = 7 * n + 3 := HNN.out
   obtain ⟨p, hp⟩ : ∃ p, p = 7 * n - 1 := ⟨_, rfl⟩
   have hp8 : p < N := by omega
   have e1 : IntKind.i64.wrap (7 * (n : Int)) = 7 * (n : Int) := by rw [IntKind.wrap_i64]; omega
   have e2 : IntKind.i64.wrap (7 * (n : Int) - 1) = (p : Int) := wi8 _ p (by omega) (by omega)
   have q1 := HN.out.cell p hp8
   have f1 := HN.out.free p
   have HN2 : Hid (Full (wr.setCell ⟨lb, p, none⟩ (.int .u64 (vP n))) lb N E) := (HN.out.set p (vP n)).congr fun k hk => by
    have h := eI_done (E := E) (Rr := Rr) h1 HRe3.out (k := k) (by omega)
    rw [HVe.out, hp]
    exact h
   have HO3 : Hid (Old W (wr.setCell ⟨lb, p, none⟩ (.int .u64 (vP n)))) := HO.out.setCell (p := ⟨lb, p, none⟩) Hlb.out _
   have Hl2 : Hid (w.heap.size <= lb) := Nat.le_trans HW0.out.size Hlb.out
   clear hp hN3 HN HO
   go_wp2_with fail
   go_ret
   exact ⟨HW0.out.trans HO3.out, lb, Hl2.out, rfl, HN2.out⟩
end
end Go.Proofs.YtlnmjbbpenhdbaaGreat
