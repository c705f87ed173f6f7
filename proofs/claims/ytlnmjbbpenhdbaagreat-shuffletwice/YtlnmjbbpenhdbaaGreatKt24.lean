/-
  ShuffleTwice's walk (layer 8).
  A list of rows that came in, opened: what its reading says of memory.
  A group that came in, opened: what its reading says of memory.
  Pairs, threes and arrays that came in, opened: what their reading says (layer 5).
  Labelled lists, boxes, threes and what is made of draws, opened: what their reading says (layer 7).
  Batches, orders, draws and jobs that came in, opened: what their reading says (layer 8).
-/
import Derived.Test.YtlnmjbbpenhdbaaGreatKt23
import Derived.Test.YtlnmjbbpenhdbaaGreatKt05
import Derived.Test.YtlnmjbbpenhdbaaGreatKt08
import Derived.Test.YtlnmjbbpenhdbaaGreatKt01
import Derived.Deep.Slices
import Derived.Deep.Strs
import Derived.OpenShut
import Derived.SizedLaws
import Derived.Test.YtlnmjbbpenhdbaaGreatKt06
namespace Go.Proofs.YtlnmjbbpenhdbaaGreat
open Go Go.RowKit
set_option linter.unusedSimpArgs false
set_option linter.unusedVariables false

theorem sum8 (x z : Int) (h : 0 ≤ x ∧ x ≤ 4611686018427387903) (k : 0 ≤ z ∧ z ≤ 4611686018427387903) : Value.int .u64 (IntKind.u64.wrap (x + z)) = .int .u64 (x + z) := by
  have : IntKind.u64.wrap (x + z) = x + z := by rw [IntKind.wrap_u64]; omega
  rw [this]
theorem rhoinfo : (Tryz.prog.info? 63).map (fun i => (i.zero, i.size, i.bytes)) = some (some (.agg #[.int .u64 0, .int .u64 0, .int .u64 0]), 3, 24) := by kernel_rfl
theorem intinfo8 : (Tryz.prog.info? 3).map (fun i => (i.zero, i.size, i.bytes)) = some (some (.int .i64 0), 1, 8) := by kernel_rfl
abbrev rhV (R : Nat → Nat → Int) : Nat → Value := fun q => .int .u64 (R (q / 3) (q % 3))
abbrev itV (O : Nat → Int) : Nat → Value := fun q => .int .i64 (O q)
theorem rho_news (R : Nat → Nat → Int) (n : Nat) : [Value.int .u64 (R n 0), .int .u64 (R n 1), .int .u64 (R n 2)] = (List.range 3).map fun q => rhV R (n * 3 + q) := by
  show _ = [rhV R (n * 3 + 0), rhV R (n * 3 + 1), rhV R (n * 3 + 2)]
  unfold rhV
  rw [show (n * 3 + 0) / 3 = n by omega, show (n * 3 + 0) % 3 = 0 by omega, show (n * 3 + 1) / 3 = n by omega, show (n * 3 + 1) % 3 = 1 by omega, show (n * 3 + 2) / 3 = n by omega, show (n * 3 + 2) % 3 = 2 by omega]
theorem int_news (O : Nat → Int) (n : Nat) : [Value.int .i64 (O n)] = (List.range 1).map fun q => itV O (n * 1 + q) := by
  show _ = [itV O (n * 1 + 0)]
  unfold itV
  rw [show n * 1 + 0 = n by omega]
theorem RowsN.rho {w : World} {base n : Nat} {v : Value} {R : Nat → Nat → Int} (h : RowsN w base 63 3 v n (rhV R)) (hR : ∀ j k, j < n → k < 3 → U64 (R j k)) : ∃ b c, v = .slice b n c ∧ RhoIn w b n R := by
  by_cases hn : 0 < n
  · obtain ⟨g, c, cur, rfl, _, _, _, hg, hq⟩ := h.cells hn
    refine ⟨_, c, rfl, Or.inr ⟨g, 0, rfl, obj_lt hg, fun j hj k hk => ⟨?_, hR j k hj hk⟩⟩⟩
    rw [Nat.zero_add, cell_of_row _ _ (j * 3 + k) _ _ (0, 0) hg, hq (j * 3 + k) (by omega)]
    unfold rhV
    rw [show (j * 3 + k) / 3 = j by omega, show (j * 3 + k) % 3 = k by omega]
  · obtain ⟨b, c, rfl⟩ := h.slice
    exact ⟨b, c, rfl, Or.inl (by omega)⟩
theorem RowsN.ints {w : World} {base n : Nat} {v : Value} {O : Nat → Int} (h : RowsN w base 3 1 v n (itV O)) (hO : ∀ j, j < n → -9223372036854775808 ≤ O j ∧ O j ≤ 9223372036854775807) : ∃ b c, v = .slice b n c ∧ IntsIn w b n O := by
  by_cases hn : 0 < n
  · obtain ⟨g, c, cur, rfl, _, _, _, hg, hq⟩ := h.cells hn
    refine ⟨_, c, rfl, Or.inr ⟨g, 0, rfl, obj_lt hg, fun j hj => ⟨?_, hO j hj⟩⟩⟩
    rw [Nat.zero_add, cell_of_row _ _ j _ _ (0, 0) hg, hq j (by omega)]
  · obtain ⟨b, c, rfl⟩ := h.slice
    exact ⟨b, c, rfl, Or.inl (by omega)⟩
/-- Rows of elements of unlike kinds lie in unlike blocks. -/
theorem RowsN.ne {w : World} {b1 b2 : Nat} {e1 e2 : TypeId} {s1 s2 n1 n2 : Nat} {v1 v2 : Value} {V1 V2 : Nat → Value} (ht : e1 ≠ e2) (h1 : RowsN w b1 e1 s1 v1 n1 V1) (h2 : RowsN w b2 e2 s2 v2 n2 V2) : v1.ownBlock = none ∨ v1.ownBlock ≠ v2.ownBlock := by
  rcases h1.2 with ⟨rfl, _⟩ | ⟨g, cap, cur, rfl, _, hg, _⟩
  · exact Or.inl rfl
  · refine Or.inr fun he => ?_
    rcases h2.2 with ⟨rfl, _⟩ | ⟨g2, cap2, cur2, rfl, _, hg2, _⟩
    · simp [Value.ownBlock] at he
    · have : g = g2 := by simpa [Value.ownBlock] using he
      subst this
      rw [hg] at hg2
      cases hg2
      exact ht rfl
theorem mix_twice {P Q G y : Int} (h : Righ P Q G) (hy : inI P Q y = true) (C : Nat → Nat → Int) (O OO : Nat → Int) (Hf : Nat → Nat → Int) {l : Nat} (hOO : ∀ j, j < l → 0 ≤ OO j ∧ OO j < (l : Int)) (hH : ∀ j, j < l → ∀ k, k < 3 → 0 ≤ Hf j k) : ∀ j, j < l → ∀ k, k < 6 → mixC P Q G y (mixC P Q G y C O Hf) OO Hf j k = mixC P Q G y C (fun i => O (OO i).toNat) (fun i k => Hf (OO i).toNat k + Hf i k) j k := fun j hj k hk => by
  have h1 := hOO j hj
  unfold mixC
  by_cases hp : k % 2 = 0
  · rw [if_pos hp, if_pos hp, if_pos hp]
    exact h.again_add h.gin (hH _ (by omega) _ (by omega)) (hH _ hj _ (by omega))
  · rw [if_neg hp, if_neg hp, if_neg hp]
    exact h.again_add hy (hH _ (by omega) _ (by omega)) (hH _ hj _ (by omega))
theorem ordP_comp {n : Nat} {O OO : Nat → Int} (h : OrdP n O) (k : OrdP n OO) : OrdP n (fun i => O (OO i).toNat) := ⟨h.1, fun i hi => h.2.1 _ (by have := k.2.1 i hi; omega), fun i j hij hj => by
  have h1 := k.2.1 i (by omega)
  have h2 := k.2.1 j hj
  have h3 := k.2.2 i j hij hj
  rcases Nat.lt_or_gt_of_ne (show (OO i).toNat ≠ (OO j).toNat by omega) with h4 | h4
  · exact h.2.2 _ _ h4 (by omega)
  · exact fun e => h.2.2 _ _ h4 (by omega) e.symm⟩
theorem cells_row8 {w : World} {b : Nat} {cs : List Value} {t : TypeId} (h : w.heap[b]? = some (.cells cs.toArray t (0, 0))) : ∀ j u, cs[j]? = some u → w.cell? ((⟨b, 0, none⟩ : Addr).add j) = some u := fun j u hu => by
  have hadd : (⟨b, 0, none⟩ : Addr).add j = ⟨b, j, none⟩ := by unfold Addr.add; split <;> simp_all
  rw [hadd, cell_of_row _ _ j _ _ (0, 0) h]
  simpa using hu
set_option maxRecDepth 100000 in
set_option maxHeartbeats 16000000 in
theorem law8_twice (bq : Option Addr) (nq cq : Nat) (OO : Nat → Int) (P Q G H : Int) (a : Option Addr) (m cap : Nat) (N A : Nat → Int) (FA : Nat → Option Addr) (RL RC : Nat → Nat) (RF : Nat → Nat → Int) (label : List Int) (y : Int) (bi : Option Addr) (l ci : Nat) (C : Nat → Nat → Int) (bo : Option Addr) (no co : Nat) (O : Nat → Int) (bρ : Option Addr) (nρ cρ : Nat) (Rh : Nat → Nat → Int) (bR : Option Addr) (nR cR : Nat) (R : Nat → Int) (bS : Option Addr) (nS cS : Nat) (S : Nat → Int) (bT : Option Addr) (nT cT : Nat) (T : Nat → Int) (bD : Option Addr) (nD cD : Nat) (D : Nat → Int) (w : World) (_hcq : nq ≤ cq ∧ cq ≤ 9223372036854775807) (hQ : IntsIn w bq nq OO) (h4 : Four P Q G H) (_hcap : m ≤ cap) (hin : RowsIn w a m N A FA RL RC RF) (hlb : Bts label) (hy : U64 y) (hC : BoxsIn w bi l C) (hO : IntsIn w bo no O) (hρ : RhoIn w bρ nρ Rh) (hR : FacsIn w bR nR R) (hS : FacsIn w bS nS S) (hcT : nT ≤ cT ∧ cT ≤ 9223372036854775807) (hT : FacsIn w bT nT T) (hcD : nD ≤ cD ∧ cD ≤ 9223372036854775807) (hD : FacsIn w bD nD D) :
    Calls Tryz.prog 10 #[gv P Q G H a m cap, jv label y bi l ci bo no co bρ nρ cρ bR nR cR bS nS cS bT nT cT bD nD cD, .slice bq nq cq] w (Ret w (.bool true)) := by
  have HA : Hid (∀ wx, Calls Tryz.prog 12 #[] wx (Ret wx (.bool true))) := fun wx => awake8_any wx
  have HU : Hid (∀ wx, Old w wx → Calls Tryz.prog 13 #[gv P Q G H a m cap] wx fun e w' => e = .returned (.bool (fewB RL m && rightI P Q G H N A RF RL m)) ∧ Old wx w') := fun wx ho => group5_any P Q G H a m cap N A FA RL RC RF wx h4 (hin.old ho)
  have HL : Hid (∀ wx, Calls Tryz.prog 14 #[jv label y bi l ci bo no co bρ nρ cρ bR nR cR bS nS cS bT nT cT bD nD cD] wx (Ret wx (.bool (fewJ label.length l no nρ nR nS nT nD)))) := fun wx => few8_any label y bi l ci bo no co bρ nρ cρ bR nR cR bS nS cS bT nT cT bD nD cD wx
  have ha := hin.a0
  have HZ := lain2 w (gc P Q G H a m cap) (jvc label y bi l ci bo no co bρ nρ cρ bR nR cR bS nS cS bT nT cT bD nD cD) 25 33
  have HG0 := fun w' ho => (HZ.then (W' := w') ho).row 0 (by simp)
  have HJ0 := fun w' ho => (HZ.then (W' := w') ho).row 1 (by simp)
  have HW0 : Hid (Old w ((w.alloc (.cells (gc P Q G H a m cap) 25)).alloc (.cells (jvc label y bi l ci bo no co bρ nρ cρ bR nR cR bS nS cS bT nT cT bD nD cD) 33))) := HZ.old
  clear HZ hin
  go_enter Tryz.func10, Tryz.ntmps10
  go_upto_region 1 with fail
  generalize ((w.alloc (.cells (gc P Q G H a m cap) 25)).alloc (.cells (jvc label y bi l ci bo no co bρ nρ cρ bR nR cR bS nS cS bT nT cT bD nD cD) 33)) = W at *
  have HG : Hid (∀ wx, Old W wx → wx.heap[w.heap.size]? = some (.cells (gc P Q G H a m cap) 25 (0, 0))) := HG0
  have HJ : Hid (∀ wx, Old W wx → wx.heap[w.heap.size + 1]? = some (.cells (jvc label y bi l ci bo no co bρ nρ cρ bR nR cR bS nS cS bT nT cT bD nD cD) 33 (0, 0))) := HJ0
  clear HG0 HJ0
  obtain ⟨gb, hgb⟩ : ∃ gb, gb = w.heap.size := ⟨_, rfl⟩
  rw [← hgb] at HG HJ
  rw [← hgb]
  clear hgb
  have HGc : Hid (∀ wx, Old W wx → wx.cell? ⟨gb, 0, none⟩ = some (.int .u64 P) ∧ wx.cell? ⟨gb, 1, none⟩ = some (.int .u64 Q) ∧ wx.cell? ⟨gb, 2, none⟩ = some (.int .u64 G) ∧ wx.cell? ⟨gb, 3, none⟩ = some (.int .u64 H) ∧ wx.cell? ⟨gb, 4, none⟩ = some (.slice a m cap)) := fun wx ho => ⟨cell_of_row _ _ 0 _ _ (0, 0) (HG.out _ ho), cell_of_row _ _ 1 _ _ (0, 0) (HG.out _ ho), cell_of_row _ _ 2 _ _ (0, 0) (HG.out _ ho), cell_of_row _ _ 3 _ _ (0, 0) (HG.out _ ho), cell_of_row _ _ 4 _ _ (0, 0) (HG.out _ ho)⟩
  have HJc : Hid (∀ wx, Old W wx → wx.cell? ⟨gb + 1, 0, none⟩ = some (.string (strOfNums label)) ∧ wx.cell? ⟨gb + 1, 1, none⟩ = some (.int .u64 y) ∧ wx.cell? ⟨gb + 1, 2, none⟩ = some (.slice bi l ci) ∧ wx.cell? ⟨gb + 1, 3, none⟩ = some (.slice bo no co) ∧ wx.cell? ⟨gb + 1, 4, none⟩ = some (.slice bρ nρ cρ) ∧ wx.cell? ⟨gb + 1, 5, none⟩ = some (.slice bR nR cR) ∧ wx.cell? ⟨gb + 1, 6, none⟩ = some (.slice bS nS cS) ∧ wx.cell? ⟨gb + 1, 7, none⟩ = some (.slice bT nT cT) ∧ wx.cell? ⟨gb + 1, 8, none⟩ = some (.slice bD nD cD)) := fun wx ho => ⟨cell_of_row _ _ 0 _ _ (0, 0) (HJ.out _ ho), cell_of_row _ _ 1 _ _ (0, 0) (HJ.out _ ho), cell_of_row _ _ 2 _ _ (0, 0) (HJ.out _ ho), cell_of_row _ _ 3 _ _ (0, 0) (HJ.out _ ho), cell_of_row _ _ 4 _ _ (0, 0) (HJ.out _ ho), cell_of_row _ _ 5 _ _ (0, 0) (HJ.out _ ho), cell_of_row _ _ 6 _ _ (0, 0) (HJ.out _ ho), cell_of_row _ _ 7 _ _ (0, 0) (HJ.out _ ho), cell_of_row _ _ 8 _ _ (0, 0) (HJ.out _ ho)⟩
  go_upto_region 3 with (go_at_call 12; refine (HA.out _).mono ?_; rintro e w1 ⟨rfl, h1⟩)
  have HO1 : Hid (Old W w1) := h1
  clear h1 HA
  obtain ⟨g0, g1, g2, g3, g4⟩ := HGc.out _ HO1.out
  cases hg : (fewB RL m && rightI P Q G H N A RF RL m)
  · rw [hg] at HU
    clear hg ha h4 hC hO hρ hR hS hT hD hQ
    go_wp2_with (go_at_call 13; refine (HU.out _ (HW0.out.trans HO1.out)).mono ?_; rintro e w3 ⟨rfl, o3⟩)
    go_ret
    exact ⟨rfl, (HW0.out.trans HO1.out).trans o3⟩
  have hg' := (Bool.and_eq_true_iff.1 hg).2
  have hr := right_righ ha hg'
  have hh := right_h hg'
  rw [hg] at HU
  clear hg hg' ha
  cases hf : fewJ label.length l no nρ nR nS nT nD
  · rw [hf] at HL
    clear hf h4 hC hO hρ hR hS hT hD hr hQ
    go_wp2_with (first
      | (go_at_call 13; refine (HU.out _ (HW0.out.trans HO1.out)).mono ?_; rintro e w3 ⟨rfl, o3⟩; obtain ⟨j0, j1, j2, j3, j4, j5, j6, j7, j8⟩ := HJc.out _ (HO1.out.trans o3))
      | (go_at_call 14; refine (HL.out _).mono ?_; rintro e w4 ⟨rfl, o4⟩))
    go_ret
    exact ⟨rfl, ((HW0.out.trans HO1.out).trans o3).trans o4⟩
  rw [hf] at HL
  obtain ⟨⟨hll, ml, mo⟩, mρ, mR, mS, mT, mD⟩ := fewJ_iff.1 hf
  clear hf
  by_cases hnq : nq = l
  rotate_left
  · have q1 : ¬ (nq : Int) = (l : Int) := by omega
    have q2 : ((nq : Int) != (l : Int)) = true := by simpa using q1
    clear hnq h4 hC hO hρ hR hS hT hD hr hQ
    go_wp2_with (first
      | (go_at_call 13; refine (HU.out _ (HW0.out.trans HO1.out)).mono ?_; rintro e w3 ⟨rfl, o3⟩; obtain ⟨j0, j1, j2, j3, j4, j5, j6, j7, j8⟩ := HJc.out _ (HO1.out.trans o3))
      | (go_at_call 14; refine (HL.out _).mono ?_; rintro e w4 ⟨rfl, o4⟩; obtain ⟨j0, j1, j2, j3, j4, j5, j6, j7, j8⟩ := HJc.out _ ((HO1.out.trans o3).trans o4)))
    go_ret
    exact ⟨rfl, ((HW0.out.trans HO1.out).trans o3).trans o4⟩
  have hnq' : l = nq := hnq.symm
  subst hnq'
  clear hnq
  obtain ⟨Hf, hHf⟩ : ∃ Hf : Nat → Nat → Int, Hf = fun i k => Rh i k / 4 := ⟨_, rfl⟩
  have HHe : Hid (∀ i k, Hf i k = Rh i k / 4) := fun i k => by rw [hHf]
  clear hHf
  have HRho : Hid (RhoIn w bρ nρ Rh) := hρ
  have HHu : Hid (∀ i k, i < nρ → k < 3 → 0 ≤ Hf i k ∧ Hf i k ≤ 4611686018427387903) := fun i k hi hk => by
    have := HRho.out.u64 hi hk
    rw [HHe.out]
    unfold U64 at this
    omega
  have HHuu : Hid (∀ i k, i < nρ → k < 3 → U64 (Hf i k)) := fun i k hi hk => by have := HHu.out i k hi hk; unfold U64; omega
  have HMx1 : Hid (∀ wx bh ch, Old w wx → RhoIn wx bh nρ Hf → Calls Tryz.prog 15 #[gv P Q G H a m cap, .int .u64 y, .slice bi l ci, .slice bo no co, .slice bh nρ ch] wx (GivB wx (mixB P Q y l C no O nρ) l (mixC P Q G y C O Hf))) := fun wx bh ch ho hh => smix_any P Q G H a m cap y bi l ci C bo no co O bh nρ ch Hf wx h4 hr hy (by omega) (by omega) (by omega) (hC.old ho) (hO.old ho) hh
  have HMx2 : Hid (∀ wx b1 n1 c1 bh ch, Old w wx → n1 ≤ l → BoxsIn wx b1 n1 (mixC P Q G y C O Hf) → RhoIn wx bh nρ Hf → Calls Tryz.prog 15 #[gv P Q G H a m cap, .int .u64 y, .slice b1 n1 c1, .slice bq l cq, .slice bh nρ ch] wx (GivB wx (mixB P Q y n1 (mixC P Q G y C O Hf) l OO nρ) n1 (mixC P Q G y (mixC P Q G y C O Hf) OO Hf))) := fun wx b1 n1 c1 bh ch ho hn1 h1 hh => smix_any P Q G H a m cap y b1 n1 c1 _ bq l cq OO bh nρ ch Hf wx h4 hr hy (by omega) (by omega) (by omega) h1 (hQ.old ho) hh
  obtain ⟨M1, hM1⟩ : ∃ M1, M1 = mixC P Q G y C O Hf := ⟨_, rfl⟩
  have HM1e : Hid (M1 = mixC P Q G y C O Hf) := hM1
  rw [← hM1] at HMx1 HMx2
  clear hM1
  obtain ⟨M2, hM2⟩ : ∃ M2, M2 = mixC P Q G y M1 OO Hf := ⟨_, rfl⟩
  have HM2e : Hid (M2 = mixC P Q G y M1 OO Hf) := hM2
  rw [← hM2] at HMx2
  clear hM2
  have HIO : Hid (IntsIn w bo no O) := hO
  have HIQ : Hid (IntsIn w bq l OO) := hQ
  have HMx3 : Hid (∀ wx b1 c1 Bo b2 c2 Su, Old w wx → IntsIn wx b1 l Bo → RhoIn wx b2 l Su → Calls Tryz.prog 15 #[gv P Q G H a m cap, .int .u64 y, .slice bi l ci, .slice b1 l c1, .slice b2 l c2] wx (GivB wx (mixB P Q y l C l Bo l) l (mixC P Q G y C Bo Su))) := fun wx b1 c1 Bo b2 c2 Su ho h1 h2 => smix_any P Q G H a m cap y bi l ci C b1 l c1 Bo b2 l c2 Su wx h4 hr hy (by omega) (by omega) (by omega) (hC.old ho) h1 h2
  have HRi : Hid (Righ P Q G) := hr
  clear hO hQ hC hρ hR hS hT hD h4
  obtain ⟨i3, hi3, hz3⟩ := Option.map_eq_some_iff.1 rhoinfo
  simp only [Prod.mk.injEq] at hz3
  obtain ⟨hz30, hz31, hz32⟩ := hz3
  have HI3 : Hid (Tryz.prog.info? 63 = some i3 ∧ i3.zero = some (.agg #[.int .u64 0, .int .u64 0, .int .u64 0]) ∧ i3.size = 3 ∧ i3.bytes = 24) := ⟨hi3, hz30, hz31, hz32⟩
  clear hi3 hz30 hz31 hz32 hr
  obtain ⟨i8, hi8, hz8⟩ := Option.map_eq_some_iff.1 intinfo8
  simp only [Prod.mk.injEq] at hz8
  obtain ⟨hz80, hz81, hz82⟩ := hz8
  have HI8 : Hid (Tryz.prog.info? 3 = some i8 ∧ i8.zero = some (.int .i64 0) ∧ i8.size = 1 ∧ i8.bytes = 8) := ⟨hi8, hz80, hz81, hz82⟩
  clear hi8 hz80 hz81 hz82
  go_upto_region 6 with (first
    | (go_at_call 13; refine (HU.out _ (HW0.out.trans HO1.out)).mono ?_; rintro e w3 ⟨rfl, o3⟩; obtain ⟨j0, j1, j2, j3, j4, j5, j6, j7, j8⟩ := HJc.out _ (HO1.out.trans o3))
    | (go_at_call 14; refine (HL.out _).mono ?_; rintro e w4 ⟨rfl, o4⟩; obtain ⟨j0, j1, j2, j3, j4, j5, j6, j7, j8⟩ := HJc.out _ ((HO1.out.trans o3).trans o4)))
  have HO4 : Hid (Old W w4) := (HO1.out.trans o3).trans o4
  clear o3 o4 HU HL HO1 g0 g1 g2 g3 g4 j0 j1 j2 j3 j4 j5 j6 j7 j8
  obtain ⟨j0, j1, j2, j3, j4, j5, j6, j7, j8⟩ := HJc.out _ HO4.out
  go_upto_region 7 with fail
  clear j0 j1 j2 j3 j4 j5 j6 j7 j8
  go_loopw [7, 42] (fun v iv wx => ∃ i : Nat, iv = .int .i64 (i : Int) ∧ i ≤ nρ ∧ Hid (RowsN wx W.heap.size 63 3 v i (rhV Hf)) ∧ Hid (Old W wx)) (fun _ iv _ => nρ - (intOf iv).toNat)
  case atStart => exact ⟨0, rfl, Nat.zero_le _, rowsN_nil _ _ _ _ _, HO4⟩
  case round =>
    obtain ⟨i, rfl, hi, HN, HO⟩ := hrel
    by_cases hlt : i < nρ
    · rcases HRho.out with h0 | ⟨bx, ox, hqx, _, hrx⟩
      · omega
      have c0 : wr.cell? ⟨bx, ox + i * 3, none⟩ = some (.int .u64 (Rh i 0)) := (HW0.out.trans HO.out).cellOf (hrx i hlt 0 (by omega)).1
      have c1 : wr.cell? ⟨bx, ox + i * 3 + 1, none⟩ = some (.int .u64 (Rh i 1)) := (HW0.out.trans HO.out).cellOf (hrx i hlt 1 (by omega)).1
      have c2 : wr.cell? ⟨bx, ox + i * 3 + 2, none⟩ = some (.int .u64 (Rh i 2)) := (HW0.out.trans HO.out).cellOf (hrx i hlt 2 (by omega)).1
      have HRi : Hid (U64 (Rh i 0) ∧ U64 (Rh i 1) ∧ U64 (Rh i 2)) := ⟨(hrx i hlt 0 (by omega)).2, (hrx i hlt 1 (by omega)).2, (hrx i hlt 2 (by omega)).2⟩
      have HNews : Hid ([Value.int .u64 (Rh i 0 / 4), .int .u64 (Rh i 1 / 4), .int .u64 (Rh i 2 / 4)] = (List.range 3).map fun q => rhV Hf (i * 3 + q)) := by have := rho_news Hf i; rw [HHe.out, HHe.out, HHe.out] at this; exact this
      clear hrx
      subst hqx
      obtain ⟨u0, u1, u2⟩ := HRi.out
      unfold U64 at u0 u1 u2
      generalize Rh i 0 = x0 at *
      generalize Rh i 1 = x1 at *
      generalize Rh i 2 = x2 at *
      have HO1 : Hid (Old wr (wr.alloc (.cells #[.int .u64 x0, .int .u64 x1, .int .u64 x2] 63))) := (Old.refl _).alloc _
      have HR1 : Hid ((wr.alloc (.cells #[.int .u64 x0, .int .u64 x1, .int .u64 x2] 63)).heap[wr.heap.size]? = some (.cells #[.int .u64 x0, .int .u64 x1, .int .u64 x2] 63 (0, 0))) := heap_alloc_last _ _
      go_upto_region 9 with fail
      clear c0 c1 c2
      generalize wr.alloc (.cells #[.int .u64 x0, .int .u64 x1, .int .u64 x2] 63) = w5 at *
      generalize wr.heap.size = tb at *
      have q0 : w5.cell? ⟨tb, 0, none⟩ = some (.int .u64 x0) := cell_of_row _ _ 0 _ _ (0, 0) HR1.out
      have q1 : w5.cell? ⟨tb, 1, none⟩ = some (.int .u64 x1) := cell_of_row _ _ 1 _ _ (0, 0) HR1.out
      have q2 : w5.cell? ⟨tb, 2, none⟩ = some (.int .u64 x2) := cell_of_row _ _ 2 _ _ (0, 0) HR1.out
      have hw5 : W.heap.size ≤ w5.heap.size := (HO.out.trans HO1.out).size
      have HNv := HN.out.old HO1.out
      have HOv : Hid (Old W w5) := HO.out.trans HO1.out
      obtain ⟨hi3, hz30, hz31, hz32⟩ := HI3.out
      clear HO1 HR1 HRi
      go_wp2_with (at_builtin; refine wpList_append_lies _ rfl _ _ 28 rfl W.heap.size 63 i3 (.agg #[.int .u64 0, .int .u64 0, .int .u64 0]) 3 24 Tryz.underlying28 hi3 hz30 hz31 hz32 rfl (by decide) _ _ _ rfl (World.ownsRow.alloc HNv _) ⟨w5.heap.size, 0, none⟩ 1 1 [.int .u64 (x0 / 4), .int .u64 (x1 / 4), .int .u64 (x2 / 4)] rfl rfl ?c1 ?c2 (by decide) ?c3 ?c4 ?c5 _ rfl ?_)
      case c1 => exact cells_new8 w5 _ _
      case c2 => intro u hu; simp at hu; rcases hu with rfl | rfl | rfl <;> rfl
      case c3 => unfold maxLen; omega
      case c4 => omega
      case c5 => simp; omega
      intro g5 cap5 w9 hown9 hgrow9 hat9 _
      have HN9 : Hid (RowsN w9 W.heap.size 63 3 (.slice (some ⟨g5, 0, none⟩) (i + 1) cap5) (i + 1) (rhV Hf)) := RowsN.app hown9 HNews.out
      have HO9 : Hid (Old W w9) := (HOv.out.alloc _).grown hgrow9 fun q hq => (World.ownsRow.lt HNv q hq).1
      clear hown9 hgrow9 hat9 HNews HNv q0 q1 q2 u0 u1 u2
      go_wp2
      go_roundw
      case rel => exact ⟨i + 1, idx_next i, by omega, HN9, HO9⟩
      case measure => simp [intOf]; omega
    · have he : nρ = i := by omega
      subst he
      have HNe : Hid (RowsN wr W.heap.size 63 3 u7 nρ (rhV Hf)) := HN
      clear hi hlt HN
      obtain ⟨bh, ch, ebh, hrh⟩ := HNe.out.rho HHuu.out
      have HHr : Hid (RhoIn wr bh nρ Hf) := hrh
      subst ebh
      clear hrh HNe
      obtain ⟨g0, g1, g2, g3, g4⟩ := HGc.out _ HO.out
      obtain ⟨j0, j1, j2, j3, j4, j5, j6, j7, j8⟩ := HJc.out _ HO.out
      cases hm1 : mixB P Q y l C no O nρ
      · have HN1 : Hid (∀ wx bh ch, Old w wx → RhoIn wx bh nρ Hf → Calls Tryz.prog 15 #[gv P Q G H a m cap, .int .u64 y, .slice bi l ci, .slice bo no co, .slice bh nρ ch] wx fun e w' => Old wx w' ∧ ∃ b, e = .returned (.tuple #[.slice b 0 0, .bool false]) ∧ BoxF w' b 0 M1) := fun wx bh ch ho hh => (HMx1.out wx bh ch ho hh).mono fun e w' h => by rw [hm1] at h; exact h
        have HN2 : Hid (∀ wx b1 bh ch, Old w wx → BoxF wx b1 0 M1 → RhoIn wx bh nρ Hf → Calls Tryz.prog 15 #[gv P Q G H a m cap, .int .u64 y, .slice b1 0 0, .slice bq l cq, .slice bh nρ ch] wx fun e w' => Old wx w' ∧ ∃ b ok, e = .returned (.tuple #[.slice b 0 0, .bool ok])) := fun wx b1 bh ch ho h1 hh => (HMx2.out wx b1 0 0 bh ch ho (Nat.zero_le _) h1.boxs hh).mono fun e w' h => by
          obtain ⟨h5, b5, h6, _⟩ := h
          simp only [ite_self] at h6
          exact ⟨h5, b5, _, h6⟩
        clear hm1 HMx1 HMx2 HMx3
        go_upto_region 12 with (go_at_call 15; refine (HN1.out _ _ _ (HW0.out.trans HO.out) HHr.out).mono ?_; rintro e w5 ⟨o5, b1, rfl, hb1⟩)
        have HO5 : Hid (Old W w5) := HO.out.trans o5
        have HH5 : Hid (RhoIn w5 bh nρ Hf) := HHr.out.old o5
        have HB5 : Hid (BoxF w5 b1 0 M1) := hb1
        clear g0 g1 g2 g3 g4 j0 j1 j2 j3 j4 j5 j6 j7 j8 o5 hb1 HN1
        obtain ⟨g0, g1, g2, g3, g4⟩ := HGc.out _ HO5.out
        obtain ⟨j0, j1, j2, j3, j4, j5, j6, j7, j8⟩ := HJc.out _ HO5.out
        go_wp2_with (go_at_call 15; refine (HN2.out _ _ _ _ (HW0.out.trans HO5.out) HB5.out HH5.out).mono ?_; rintro e w6 ⟨o6, b2, ok2, rfl⟩)
        go_ret
        exact ⟨rfl, (HW0.out.trans HO5.out).trans o6⟩
      have HN1 : Hid (∀ wx bh ch, Old w wx → RhoIn wx bh nρ Hf → Calls Tryz.prog 15 #[gv P Q G H a m cap, .int .u64 y, .slice bi l ci, .slice bo no co, .slice bh nρ ch] wx fun e w' => Old wx w' ∧ ∃ b, e = .returned (.tuple #[.slice b l l, .bool true]) ∧ BoxF w' b l M1) := fun wx bh ch ho hh => (HMx1.out wx bh ch ho hh).mono fun e w' h => by rw [hm1] at h; exact h
      have HMB : Hid (mixB P Q y l C no O nρ = true) := hm1
      clear hm1 HMx1
      cases hm2 : mixB P Q y l M1 l OO nρ
      · have HN2 : Hid (∀ wx b1 bh ch, Old w wx → BoxF wx b1 l M1 → RhoIn wx bh nρ Hf → Calls Tryz.prog 15 #[gv P Q G H a m cap, .int .u64 y, .slice b1 l l, .slice bq l cq, .slice bh nρ ch] wx fun e w' => Old wx w' ∧ ∃ b, e = .returned (.tuple #[.slice b 0 0, .bool false])) := fun wx b1 bh ch ho h1 hh => (HMx2.out wx b1 l l bh ch ho (Nat.le_refl _) h1.boxs hh).mono fun e w' h => by
          rw [hm2] at h
          obtain ⟨h5, b5, h6, _⟩ := h
          exact ⟨h5, b5, h6⟩
        clear hm2 HMx2 HMx3 HMB
        go_upto_region 12 with (go_at_call 15; refine (HN1.out _ _ _ (HW0.out.trans HO.out) HHr.out).mono ?_; rintro e w5 ⟨o5, b1, rfl, hb1⟩)
        have HO5 : Hid (Old W w5) := HO.out.trans o5
        have HH5 : Hid (RhoIn w5 bh nρ Hf) := HHr.out.old o5
        have HB5 : Hid (BoxF w5 b1 l M1) := hb1
        clear g0 g1 g2 g3 g4 j0 j1 j2 j3 j4 j5 j6 j7 j8 o5 hb1 HN1
        obtain ⟨g0, g1, g2, g3, g4⟩ := HGc.out _ HO5.out
        obtain ⟨j0, j1, j2, j3, j4, j5, j6, j7, j8⟩ := HJc.out _ HO5.out
        go_wp2_with (go_at_call 15; refine (HN2.out _ _ _ _ (HW0.out.trans HO5.out) HB5.out HH5.out).mono ?_; rintro e w6 ⟨o6, b2, rfl⟩)
        go_ret
        exact ⟨rfl, (HW0.out.trans HO5.out).trans o6⟩
      have HN2 : Hid (∀ wx b1 bh ch, Old w wx → BoxF wx b1 l M1 → RhoIn wx bh nρ Hf → Calls Tryz.prog 15 #[gv P Q G H a m cap, .int .u64 y, .slice b1 l l, .slice bq l cq, .slice bh nρ ch] wx fun e w' => Old wx w' ∧ ∃ b, e = .returned (.tuple #[.slice b l l, .bool true]) ∧ BoxF w' b l M2) := fun wx b1 bh ch ho h1 hh => (HMx2.out wx b1 l l bh ch ho (Nat.le_refl _) h1.boxs hh).mono fun e w' h => by rw [hm2] at h; exact h
      obtain ⟨hba, hin, hord, e1, e2⟩ := mixB_ref.1 HMB.out
      obtain ⟨_, _, hord2, _, _⟩ := mixB_ref.1 hm2
      have hP1 : OrdP no O := ordB_iff.1 (by have := hord; unfold ordR at this; exact (Bool.and_eq_true_iff.1 this).2)
      have hP2 : OrdP l OO := ordB_iff.1 (by have := hord2; unfold ordR at this; exact (Bool.and_eq_true_iff.1 this).2)
      have h8 : l ≤ 8 := (batB_iff.1 hba).1.2
      clear hm2 HMx2
      have e1' : no = l := e1
      subst e1'
      have e2' : nρ = no := e2
      subst e2'
      obtain ⟨Bo, hBo⟩ : ∃ Bo : Nat → Int, Bo = fun i => O (OO i).toNat := ⟨_, rfl⟩
      obtain ⟨Su, hSu⟩ : ∃ Su : Nat → Nat → Int, Su = fun i k => Hf (OO i).toNat k + Hf i k := ⟨_, rfl⟩
      have hPB : OrdP nρ Bo := by rw [hBo]; exact ordP_comp hP1 hP2
      have hor3 : ordR nρ Bo = true := by unfold ordR; rw [ordB_iff.2 hPB, decide_eq_true h8]; rfl
      have hmb3 : mixB P Q y nρ C nρ Bo nρ = true := mixB_ref.2 ⟨hba, hin, hor3, rfl, rfl⟩
      have HBo : Hid (∀ i, Bo i = O (OO i).toNat) := fun i => by rw [hBo]
      have HSu : Hid (∀ i k, Su i k = Hf (OO i).toNat k + Hf i k) := fun i k => by rw [hSu]
      have HP1 : Hid (OrdP nρ O) := hP1
      have HP2 : Hid (OrdP nρ OO) := hP2
      have HPB : Hid (OrdP nρ Bo) := hPB
      have HSame : Hid (∀ j, j < nρ → ∀ k, k < 6 → M2 j k = mixC P Q G y C Bo Su j k) := fun j hj k hk => by
        rw [HM2e.out, HM1e.out, hBo, hSu]
        exact mix_twice HRi.out hin C O OO Hf (fun j hj => hP2.2.1 j hj) (fun j hj k hk => (HHu.out j k hj hk).1) j hj k hk
      have HN3 : Hid (∀ wx b1 c1 b2 c2, Old w wx → IntsIn wx b1 nρ Bo → RhoIn wx b2 nρ Su → Calls Tryz.prog 15 #[gv P Q G H a m cap, .int .u64 y, .slice bi nρ ci, .slice b1 nρ c1, .slice b2 nρ c2] wx fun e w' => Old wx w' ∧ ∃ b, e = .returned (.tuple #[.slice b nρ nρ, .bool true]) ∧ BoxF w' b nρ (mixC P Q G y C Bo Su)) := fun wx b1 c1 b2 c2 ho h1 h2 => (HMx3.out wx b1 c1 Bo b2 c2 Su ho h1 h2).mono fun e w' h => by rw [hmb3] at h; exact h
      clear hBo hSu hPB hor3 hmb3 hba hin hord hord2 hP1 hP2 e1 e2 HMB HMx3 HM1e HM2e
      go_upto_region 12 with (go_at_call 15; refine (HN1.out _ _ _ (HW0.out.trans HO.out) HHr.out).mono ?_; rintro e w5 ⟨o5, b1, rfl, hb1⟩)
      have HO5 : Hid (Old W w5) := HO.out.trans o5
      have HH5 : Hid (RhoIn w5 bh nρ Hf) := HHr.out.old o5
      have HB5 : Hid (BoxF w5 b1 nρ M1) := hb1
      clear g0 g1 g2 g3 g4 j0 j1 j2 j3 j4 j5 j6 j7 j8 o5 hb1 HN1
      obtain ⟨g0, g1, g2, g3, g4⟩ := HGc.out _ HO5.out
      obtain ⟨j0, j1, j2, j3, j4, j5, j6, j7, j8⟩ := HJc.out _ HO5.out
      go_upto_region 13 with (go_at_call 15; refine (HN2.out _ _ _ _ (HW0.out.trans HO5.out) HB5.out HH5.out).mono ?_; rintro e w6 ⟨o6, b2, rfl, hb2⟩)
      have HO6 : Hid (Old W w6) := HO5.out.trans o6
      have HH6 : Hid (RhoIn w6 bh nρ Hf) := HH5.out.old o6
      have HB6 : Hid (BoxF w6 b2 nρ M2) := hb2
      clear g0 g1 g2 g3 g4 j0 j1 j2 j3 j4 j5 j6 j7 j8 o6 hb2 HN2 HO5 HH5 HB5 HO HHr
      go_upto_region 18 with fail
      go_loopw [14, 15, 90] (fun v1 v2 iv wx => ∃ i : Nat, iv = .int .i64 (i : Int) ∧ i ≤ nρ ∧ Hid (RowsN wx w6.heap.size 3 1 v1 i (itV Bo)) ∧ Hid (RowsN wx w6.heap.size 63 3 v2 i (rhV Su)) ∧ Hid (Old w6 wx)) (fun _ _ iv _ => nρ - (intOf iv).toNat)
      case atStart => exact ⟨0, rfl, Nat.zero_le _, rowsN_nil _ _ _ _ _, rowsN_nil _ _ _ _ _, Old.refl _⟩
      case round =>
        obtain ⟨i, rfl, hi, HL1, HL2, HO⟩ := hrel
        by_cases hlt : i < nρ
        · rcases HIQ.out with h0 | ⟨bx, ox, hqx, _, hrx⟩
          · omega
          have cx := ((HW0.out.trans HO6.out).trans HO.out).cellOf (hrx i hlt).1
          have hp := HP2.out.2.1 i hlt
          obtain ⟨p, hpe⟩ : ∃ p : Nat, OO i = (p : Int) := ⟨(OO i).toNat, by omega⟩
          have HPe : Hid ((OO i).toNat = p) := by unfold Hid; omega
          rw [hpe] at cx hp
          have hpn : p < nρ := by omega
          clear hpe hp hrx
          subst hqx
          rcases HIO.out with h0 | ⟨bz, oz, hqz, _, hrz⟩
          · omega
          have cz := ((HW0.out.trans HO6.out).trans HO.out).cellOf (hrz p hpn).1
          have HOb : Hid (-9223372036854775808 ≤ O p ∧ O p ≤ 9223372036854775807) := (hrz p hpn).2
          clear hrz
          subst hqz
          rcases HH6.out with h0 | ⟨hb, ho, hqh, _, hrh⟩
          · omega
          have HF : Hid (∀ j k, j < nρ → k < 3 → ∀ wx, Old w6 wx → wx.cell? ⟨hb, ho + j * 3 + k, none⟩ = some (.int .u64 (Hf j k))) := fun j k hj hk wx ho => ho.cellOf (hrh j hj k hk).1
          clear hrh
          subst hqh
          have hwv : w6.heap.size ≤ wr.heap.size := HO.out.size
          have hwW : W.heap.size ≤ w6.heap.size := HO6.out.size
          have HNe8 : Hid (u14.ownBlock = none ∨ u14.ownBlock ≠ u15.ownBlock) := RowsN.ne (by decide) HL1.out HL2.out
          have HNe9 : Hid (u15.ownBlock = none ∨ u15.ownBlock ≠ u14.ownBlock) := RowsN.ne (by decide) HL2.out HL1.out
          obtain ⟨j0, j1, j2, j3, j4, j5, j6, j7, j8⟩ := HJc.out _ (HO6.out.trans HO.out)
          go_upto_region 20 with fail
          clear cx
          obtain ⟨hi8, hz80, hz81, hz82⟩ := HI8.out
          have HNv := HL1.out
          go_upto_region 21 with (at_builtin; refine wpList_append_lies _ rfl _ _ 27 rfl w6.heap.size 3 i8 (.int .i64 0) 1 8 Tryz.underlying27 hi8 hz80 hz81 hz82 rfl (by decide) _ _ _ rfl (World.ownsRow.alloc HNv _) ⟨wr.heap.size, 0, none⟩ 1 1 [.int .i64 (O p)] rfl rfl ?c1 ?c2 (by decide) ?c3 ?c4 ?c5 _ rfl ?_)
          case c1 => exact cells_new8 wr _ _
          case c2 => intro u hu; simp at hu; rcases hu with rfl; rfl
          case c3 => unfold maxLen; omega
          case c4 => omega
          case c5 => simp; omega
          intro g7 cap7 w7 hown7 hgrow7 hat7 _
          have HN7 : Hid (RowsN w7 w6.heap.size 3 1 (.slice (some ⟨g7, 0, none⟩) (i + 1) cap7) (i + 1) (itV Bo)) := RowsN.app (by rw [Nat.mul_one]; exact hown7) (by rw [← int_news, HBo.out, HPe.out])
          have HO7 : Hid (Old w6 w7) := (HO.out.alloc _).grown hgrow7 fun q hq => (World.ownsRow.lt HNv q hq).1
          have HM7 : Hid (RowsN w7 w6.heap.size 63 3 u15 i (rhV Su)) := World.ownsRow.kept (World.ownsRow.alloc HL2.out _) hgrow7 HNe9.out
          have HSz : Hid (w6.heap.size ≤ w7.heap.size) := HO7.out.size
          have HU0 : Hid (∀ k, k < 3 → (0 ≤ Hf p k ∧ Hf p k ≤ 4611686018427387903) ∧ (0 ≤ Hf i k ∧ Hf i k ≤ 4611686018427387903)) := fun k hk => ⟨HHu.out p k hpn hk, HHu.out i k hlt hk⟩
          have HFp : Hid (∀ k, k < 3 → ∀ wx, Old w7 wx → wx.cell? ⟨hb, ho + p * 3 + k, none⟩ = some (.int .u64 (Hf p k))) := fun k hk wx hx => HF.out p k hpn hk wx (HO7.out.trans hx)
          have HFi : Hid (∀ k, k < 3 → ∀ wx, Old w7 wx → wx.cell? ⟨hb, ho + i * 3 + k, none⟩ = some (.int .u64 (Hf i k))) := fun k hk wx hx => HF.out i k hlt hk wx (HO7.out.trans hx)
          have HNews : Hid ([Value.int .u64 (Hf p 0 + Hf i 0), .int .u64 (Hf p 1 + Hf i 1), .int .u64 (Hf p 2 + Hf i 2)] = (List.range 3).map fun q => rhV Su (i * 3 + q)) := by
            have := rho_news Su i
            rw [HSu.out, HSu.out, HSu.out, HPe.out] at this
            exact this
          clear hown7 hgrow7 hat7 HNv cz j0 j1 j2 j3 j4 j5 j6 j7 j8 HL1 HL2 HNe8 HNe9 HOb HF hi8 hz80 hz81 hz82
          go_upto_region 21 with fail
          refine wp_region_tab 36 ((.k (u15)) :: (.k (.slice (some ⟨hb, ho, none⟩) nρ ch)) :: (.k (.int .i64 (p : Int))) :: (.k (.pointer (some ⟨hb, ho + p * 3, none⟩))) :: (.k (.pointer (some ⟨hb, ho + p * 3 + 0, none⟩))) :: (.k (.int .u64 (Hf p 0))) :: (.k (.slice (some ⟨hb, ho, none⟩) nρ ch)) :: (.k (.int .i64 (i : Int))) :: (.k (.pointer (some ⟨hb, ho + i * 3, none⟩))) :: (.k (.pointer (some ⟨hb, ho + i * 3 + 0, none⟩))) :: (.k (.int .u64 (Hf i 0))) :: (.k (.int .u64 (Hf p 0 + Hf i 0))) :: (.k (.slice (some ⟨hb, ho, none⟩) nρ ch)) :: (.k (.int .i64 (p : Int))) :: (.k (.pointer (some ⟨hb, ho + p * 3, none⟩))) :: (.k (.pointer (some ⟨hb, ho + p * 3 + 1, none⟩))) :: (.k (.int .u64 (Hf p 1))) :: (.k (.slice (some ⟨hb, ho, none⟩) nρ ch)) :: (.k (.int .i64 (i : Int))) :: (.k (.pointer (some ⟨hb, ho + i * 3, none⟩))) :: (.k (.pointer (some ⟨hb, ho + i * 3 + 1, none⟩))) :: (.k (.int .u64 (Hf i 1))) :: (.k (.int .u64 (Hf p 1 + Hf i 1))) :: (.k (.slice (some ⟨hb, ho, none⟩) nρ ch)) :: (.k (.int .i64 (p : Int))) :: (.k (.pointer (some ⟨hb, ho + p * 3, none⟩))) :: (.k (.pointer (some ⟨hb, ho + p * 3 + 2, none⟩))) :: (.k (.int .u64 (Hf p 2))) :: (.k (.slice (some ⟨hb, ho, none⟩) nρ ch)) :: (.k (.int .i64 (i : Int))) :: (.k (.pointer (some ⟨hb, ho + i * 3, none⟩))) :: (.k (.pointer (some ⟨hb, ho + i * 3 + 2, none⟩))) :: (.k (.int .u64 (Hf i 2))) :: (.k (.int .u64 (Hf p 2 + Hf i 2))) :: (.k (.agg #[.int .u64 (Hf p 0 + Hf i 0), .int .u64 (Hf p 1 + Hf i 1), .int .u64 (Hf p 2 + Hf i 2)])) :: (blkE 1 #[.int .u64 (Hf p 0 + Hf i 0), .int .u64 (Hf p 1 + Hf i 1), .int .u64 (Hf p 2 + Hf i 2)] 63) :: []) (Old w7) (by kernel_rfl) (by kernel_rfl) rfl ((Old.refl _).drew) ?st ?_
          case st =>
            refine .c stp <|
              .c stp <|
              .c stp <|
              .c (stj (n := nρ) (c := ch) 3 (by omega) Tryz.underlying28) <|
              .c (sai (by omega) Tryz.underlying63) <|
              .c (stl Tryz.underlying22 (fun wx hx => HFp.out 0 (by omega) wx hx)) <|
              .c stp <|
              .c stp <|
              .c (stj (n := nρ) (c := ch) 3 (by omega) Tryz.underlying28) <|
              .c (sai (by omega) Tryz.underlying63) <|
              .c (stl Tryz.underlying22 (fun wx hx => HFi.out 0 (by omega) wx hx)) <|
              .c (stv (sum8 _ _ (HU0.out 0 (by omega)).1 (HU0.out 0 (by omega)).2)) <|
              .c stp <|
              .c stp <|
              .c (stj (n := nρ) (c := ch) 3 (by omega) Tryz.underlying28) <|
              .c (sai (by omega) Tryz.underlying63) <|
              .c (stl Tryz.underlying22 (fun wx hx => HFp.out 1 (by omega) wx hx)) <|
              .c stp <|
              .c stp <|
              .c (stj (n := nρ) (c := ch) 3 (by omega) Tryz.underlying28) <|
              .c (sai (by omega) Tryz.underlying63) <|
              .c (stl Tryz.underlying22 (fun wx hx => HFi.out 1 (by omega) wx hx)) <|
              .c (stv (sum8 _ _ (HU0.out 1 (by omega)).1 (HU0.out 1 (by omega)).2)) <|
              .c stp <|
              .c stp <|
              .c (stj (n := nρ) (c := ch) 3 (by omega) Tryz.underlying28) <|
              .c (sai (by omega) Tryz.underlying63) <|
              .c (stl Tryz.underlying22 (fun wx hx => HFp.out 2 (by omega) wx hx)) <|
              .c stp <|
              .c stp <|
              .c (stj (n := nρ) (c := ch) 3 (by omega) Tryz.underlying28) <|
              .c (sai (by omega) Tryz.underlying63) <|
              .c (stl Tryz.underlying22 (fun wx hx => HFi.out 2 (by omega) wx hx)) <|
              .c (stv (sum8 _ _ (HU0.out 2 (by omega)).1 (HU0.out 2 (by omega)).2)) <|
              .c stp <|
              .c (stm (ob := fun t => .cells #[.int .u64 (Hf p 0 + Hf i 0), .int .u64 (Hf p 1 + Hf i 1), .int .u64 (Hf p 2 + Hf i 2)] 63) (v := fun s => .slice (some ⟨s, 0, none⟩) 1 1) old_R fun t wx hR hd => ⟨_, rfl, heap_alloc_last _ _⟩) .n
          intro t wz hR2 hk2
          simp only [fill, Ent.val, blkE, List.set_cons_zero, List.set_cons_succ, List.drop_succ_cons, List.drop_zero, List.drop_nil]
          obtain ⟨bs, ebs, hbs⟩ : ∃ b, t 35 = .slice (some ⟨b, 0, none⟩) 1 1 ∧ wz.heap[b]? = some (.cells #[.int .u64 (Hf p 0 + Hf i 0), .int .u64 (Hf p 1 + Hf i 1), .int .u64 (Hf p 2 + Hf i 2)] 63 (0, 0)) := hk2 35 (by omega)
          rw [ebs]
          have HSz2 : Hid (w6.heap.size ≤ wz.heap.size) := (HO7.out.trans hR2).size
          have HNz : Hid (RowsN wz w6.heap.size 3 1 (.slice (some ⟨g7, 0, none⟩) (i + 1) cap7) (i + 1) (itV Bo)) := HN7.out.old hR2
          have HMz := HM7.out.old hR2
          have HNe8 : Hid ((Value.slice (some ⟨g7, 0, none⟩) (i + 1) cap7).ownBlock = none ∨ (Value.slice (some ⟨g7, 0, none⟩) (i + 1) cap7).ownBlock ≠ u15.ownBlock) := RowsN.ne (by decide) HNz.out HMz
          have HOz : Hid (Old w6 wz) := HO7.out.trans hR2
          obtain ⟨hi3, hz30, hz31, hz32⟩ := HI3.out
          clear hk2 hR2 HN7 HM7 HO7
          go_wp2_with (at_builtin; refine wpList_append_lies _ rfl _ _ 28 rfl w6.heap.size 63 i3 (.agg #[.int .u64 0, .int .u64 0, .int .u64 0]) 3 24 Tryz.underlying28 hi3 hz30 hz31 hz32 rfl (by decide) _ _ _ rfl HMz ⟨bs, 0, none⟩ 1 1 [.int .u64 (Hf p 0 + Hf i 0), .int .u64 (Hf p 1 + Hf i 1), .int .u64 (Hf p 2 + Hf i 2)] rfl rfl ?c1 ?c2 (by decide) ?c3 ?c4 HSz2.out _ rfl ?_)
          case c1 => exact cells_row8 hbs
          case c2 => intro u hu; simp at hu; rcases hu with rfl | rfl | rfl <;> rfl
          case c3 => unfold maxLen; omega
          case c4 => omega
          intro g9 cap9 w9 hown9 hgrow9 hat9 _
          have HN9 : Hid (RowsN w9 w6.heap.size 63 3 (.slice (some ⟨g9, 0, none⟩) (i + 1) cap9) (i + 1) (rhV Su)) := RowsN.app hown9 HNews.out
          have HB9 : Hid (RowsN w9 w6.heap.size 3 1 (.slice (some ⟨g7, 0, none⟩) (i + 1) cap7) (i + 1) (itV Bo)) := World.ownsRow.kept HNz.out hgrow9 HNe8.out
          have HO9 : Hid (Old w6 w9) := HOz.out.grown hgrow9 fun q hq => (World.ownsRow.lt HMz q hq).1
          clear hown9 hgrow9 hat9 HNews HMz hbs HNe8 HNz HOz hi3 hz30 hz31 hz32 ebs
          go_wp2
          go_roundw
          case rel => exact ⟨i + 1, idx_next i, by omega, HB9, HN9, HO9⟩
          case measure => simp [intOf]; omega
        · have he : nρ = i := by omega
          subst he
          have HBu : Hid (∀ j, j < nρ → -9223372036854775808 ≤ Bo j ∧ Bo j ≤ 9223372036854775807) := fun j hj => by have := HPB.out.2.1 j hj; omega
          have HSuu : Hid (∀ j k, j < nρ → k < 3 → U64 (Su j k)) := fun j k hj hk => by
            rw [HSu.out]
            have h1 := HP2.out.2.1 j hj
            have h2 := HHu.out (OO j).toNat k (by omega) hk
            have h3 := HHu.out j k hj hk
            unfold U64
            omega
          obtain ⟨b8, c8, e8, hin8⟩ := HL1.out.ints HBu.out
          obtain ⟨b9, c9, e9, hrh9⟩ := HL2.out.rho HSuu.out
          subst e8
          subst e9
          have HI9 : Hid (IntsIn wr b8 nρ Bo) := hin8
          have HR9 : Hid (RhoIn wr b9 nρ Su) := hrh9
          have HOw : Hid (Old W wr) := HO6.out.trans HO.out
          have HB6' : Hid (BoxF wr b2 nρ M2) := HB6.out.old HO.out
          clear hi hlt HL1 HL2 hin8 hrh9 HO HB6
          obtain ⟨g0, g1, g2, g3, g4⟩ := HGc.out _ HOw.out
          obtain ⟨j0, j1, j2, j3, j4, j5, j6, j7, j8⟩ := HJc.out _ HOw.out
          go_upto_region 24 with (go_at_call 15; refine (HN3.out _ _ _ _ _ (HW0.out.trans HOw.out) HI9.out HR9.out).mono ?_; rintro e wa ⟨oa, b3, rfl, hb3⟩)
          have HSa : Calls Tryz.prog 17 #[.slice b2 nρ nρ, .slice b3 nρ nρ] wa (Ret wa (.bool true)) := by
            have h := rsame8_any b2 nρ nρ M2 b3 nρ nρ (mixC P Q G y C Bo Su) wa (by omega) (HB6'.out.old oa).boxs hb3.boxs
            rw [samB_iff.2 ⟨rfl, HSame.out⟩] at h
            exact h
          have HOa : Hid (Old W wa) := HOw.out.trans oa
          clear g0 g1 g2 g3 g4 j0 j1 j2 j3 j4 j5 j6 j7 j8 oa hb3 HN3
          go_wp2_with (go_at_call 17; refine HSa.mono ?_; rintro e wb ⟨rfl, ob⟩)
          go_ret
          exact ⟨rfl, (HW0.out.trans HOa.out).trans ob⟩

end Go.Proofs.YtlnmjbbpenhdbaaGreat

namespace Go.Proofs.YtlnmjbbpenhdbaaGreat
open Go.RowKit Go.ChangeShapes Go.WideShapes Go.Deep

section
variable {H : Type} {enc : TypeId × Value → H} {P : Program} {w : World}

theorem cell_lt {b off : Nat} {v : Value} (h : w.cell? ⟨b, off, none⟩ = some v) : b < w.heap.size := by
  refine Classical.byContradiction fun hc => ?_
  have : w.heap[b]? = none := by simp; omega
  simp [World.cell?, this] at h

theorem open_facs {t e : TypeId} {fuel : Nat} {v : Value} {x : DataW H × List MemPlace} (ht : P.underlying t = some (.slice e)) (he : P.underlying e = some (.int .u64)) (hc : P.cellsOf e = 1)
    (h : DataW.trod enc P w 0 (fun _ => true) true fuel t [v] = some x) : ∃ (a : Option Addr) (L C : Nat) (F : Nat → Int), v = .slice a L C ∧ L ≤ C ∧ C ≤ maxLen ∧ FacsIn w a L F := by
  rcases open_ints ht he hc h with ⟨hcs, _⟩ | ⟨a, len, cap, zs, hcs, _, hl, hm, hz, _, hcell, hwz⟩
  · exact ⟨none, 0, 0, fun _ => 0, by simpa using hcs, Nat.le_refl _, Nat.zero_le _, Or.inl rfl⟩
  · simp only [if_true] at hz
    refine ⟨some a, len, cap, fun j => zs.getD j 0, by simpa using hcs, hl, hm, ?_⟩
    by_cases h0 : len = 0
    · exact Or.inl h0
    · obtain ⟨b, off, rfl, hc'⟩ := ints_at hcell (by omega)
      refine Or.inr ⟨b, off, rfl, cell_lt (hc' 0 (by omega)), fun j hj => ⟨hc' j (by omega), ?_⟩⟩
      have hj' : j < zs.length := by omega
      have e : zs.getD j 0 = zs[j] := by simp [List.getD, hj']
      show 0 ≤ zs.getD j 0 ∧ zs.getD j 0 ≤ 18446744073709551615
      rw [e]
      exact bounds_u64 (hwz _ (List.getElem_mem hj'))

theorem open_rows {t e u s : TypeId} {f0 f1 f2 : Field} (ht : P.underlying t = some (.slice e)) (he : P.underlying e = some (.struct #[f0, f1, f2])) (hu : P.underlying u = some (.int .u64)) (hs : P.underlying s = some (.slice u))
    (o0 : f0.offset = 0) (o1 : f1.offset = 1) (o2 : f2.offset = 2) (t0 : f0.type = u) (t1 : f1.type = u) (t2 : f2.type = s) (ce : P.cellsOf e = 3) (cu : P.cellsOf u = 1) (cs : P.cellsOf s = 1)
    {a : Option Addr} {n cap : Nat} {d : DataW H} {p : List MemPlace} (h : DataW.Trod enc P w 0 (fun _ => true) true t (.slice a n cap) d p) :
    n ≤ cap ∧ ∃ (N A : Nat → Int) (FA : Nat → Option Addr) (L C : Nat → Nat) (F : Nat → Nat → Int), RowsIn w a n N A FA L C F := by
  obtain ⟨fuel, hf⟩ := h
  rcases open_slice ht hf with ⟨hcs, _⟩ | ⟨a', len, cap', m, k, D, Pl, hcs, _, hl, hm, hmm, _, hx⟩
  · simp [Value.cells] at hcs
    obtain ⟨rfl, rfl, rfl⟩ := hcs
    exact ⟨Nat.le_refl _, fun _ => 0, fun _ => 0, fun _ => none, fun _ => 0, fun _ => 0, fun _ _ => 0, Or.inl rfl⟩
  simp [Value.cells] at hcs
  obtain ⟨rfl, rfl, rfl⟩ := hcs
  simp only [if_true] at hmm
  subst hmm
  refine ⟨hl, ?_⟩
  by_cases h0 : n = 0
  · exact ⟨fun _ => 0, fun _ => 0, fun _ => none, fun _ => 0, fun _ => 0, fun _ _ => 0, Or.inl h0⟩
  rw [ce] at hx
  -- the address is a plain one
  obtain ⟨b, off, spot⟩ := a'
  have hspot : spot = none := by
    obtain ⟨cs0, hc0, _⟩ := hx 0 (by omega)
    obtain ⟨_, hlen, hcell⟩ := World.cells?_some hc0
    have g := hcell 0 (by omega)
    have : ∃ v, cs0[0]? = some v := ⟨cs0[0], by simp⟩
    obtain ⟨v, hv⟩ := this
    rw [hv] at g
    simpa [Addr.add] using World.cell?_spot g
  subst hspot
  have each : ∀ i, i < m → ∃ y : Int × Int × Option Addr × Nat × Nat × (Nat → Int), RowAt w b (off + i * 3) y.1 y.2.1 y.2.2.1 y.2.2.2.1 y.2.2.2.2.1 y.2.2.2.2.2 := by
    intro i hi
    obtain ⟨cs', h1, h2⟩ := hx i hi
    obtain ⟨_, hlen, hcell⟩ := World.cells?_some h1
    obtain ⟨y0, y1, y2, k', _, _, g0, g1, g2⟩ := trod_struct3 he h2
    match cs', hlen with
    | [v0, v1, v2], _ =>
      simp [o0, o1, o2, t0, t1, t2, cu, cs] at g0 g1 g2
      obtain ⟨x0, e0, _, w0⟩ := DataW.trod_int hu g0
      obtain ⟨x1, e1, _, w1⟩ := DataW.trod_int hu g1
      obtain ⟨fa, L, C, F, e2, hL, hC, hF⟩ := open_facs hs hu cu g2
      simp at e0 e1
      subst e0 e1 e2
      have c0 := hcell 0 (by omega)
      have c1 := hcell 1 (by omega)
      have c2 := hcell 2 (by omega)
      simp only [add_plain] at c0 c1 c2
      have b0 := bounds_u64 w0
      have b1 := bounds_u64 w1
      exact ⟨(x0, x1, fa, L, C, F), by simpa using c0, by simpa using c1, by simpa using c2, b0.1, b0.2, b1.1, b1.2, hL, hC, hF⟩
  obtain ⟨y, hy⟩ := choose_lt each
  refine ⟨fun i => (y i).1, fun i => (y i).2.1, fun i => (y i).2.2.1, fun i => (y i).2.2.2.1, fun i => (y i).2.2.2.2.1, fun i => (y i).2.2.2.2.2, Or.inr ⟨b, off, rfl, cell_lt (hy 0 (by omega)).c0, fun i hi => hy i (by omega)⟩⟩

end
end Go.Proofs.YtlnmjbbpenhdbaaGreat

namespace Go.Proofs.YtlnmjbbpenhdbaaGreat
open Go.RowKit Go.ChangeShapes Go.WideShapes Go.Deep

section
variable {H : Type} {enc : TypeId × Value → H} {P : Program} {w : World}

theorem trod_struct5 {t : TypeId} {f0 f1 f2 f3 f4 : Field} {fuel : Nat} {cs : List Value} {x : DataW H × List MemPlace} (ht : P.underlying t = some (.struct #[f0, f1, f2, f3, f4])) (h : DataW.trod enc P w 0 (fun _ => true) true fuel t cs = some x) :
    ∃ y0 y1 y2 y3 y4 n, cs.length = P.cellsOf t ∧ DataW.trod enc P w 0 (fun _ => true) true n f0.type ((cs.drop f0.offset).take (P.cellsOf f0.type)) = some y0 ∧
      DataW.trod enc P w 0 (fun _ => true) true n f1.type ((cs.drop f1.offset).take (P.cellsOf f1.type)) = some y1 ∧ DataW.trod enc P w 0 (fun _ => true) true n f2.type ((cs.drop f2.offset).take (P.cellsOf f2.type)) = some y2 ∧
      DataW.trod enc P w 0 (fun _ => true) true n f3.type ((cs.drop f3.offset).take (P.cellsOf f3.type)) = some y3 ∧ DataW.trod enc P w 0 (fun _ => true) true n f4.type ((cs.drop f4.offset).take (P.cellsOf f4.type)) = some y4 := by
  obtain ⟨xs, n, _, rfl, hl, hlen, hf⟩ := DataW.trod_struct ht h
  match xs, hlen with
  | [y0, y1, y2, y3, y4], _ => exact ⟨y0, y1, y2, y3, y4, n, hl, by simpa using hf 0 f0 rfl, by simpa using hf 1 f1 rfl, by simpa using hf 2 f2 rfl, by simpa using hf 3 f3 rfl, by simpa using hf 4 f4 rfl⟩

theorem open_params {t u r e s : TypeId} {f0 f1 f2 f3 f4 g0 g1 g2 : Field} (ht : P.underlying t = some (.struct #[f0, f1, f2, f3, f4])) (hu : P.underlying u = some (.int .u64)) (hr : P.underlying r = some (.slice e))
    (he : P.underlying e = some (.struct #[g0, g1, g2])) (hs : P.underlying s = some (.slice u)) (o0 : f0.offset = 0) (o1 : f1.offset = 1) (o2 : f2.offset = 2) (o3 : f3.offset = 3) (o4 : f4.offset = 4)
    (t0 : f0.type = u) (t1 : f1.type = u) (t2 : f2.type = u) (t3 : f3.type = u) (t4 : f4.type = r) (p0 : g0.offset = 0) (p1 : g1.offset = 1) (p2 : g2.offset = 2) (s0 : g0.type = u) (s1 : g1.type = u) (s2 : g2.type = s)
    (ct : P.cellsOf t = 5) (ce : P.cellsOf e = 3) (cu : P.cellsOf u = 1) (cr : P.cellsOf r = 1) (cs : P.cellsOf s = 1) {v : Value} {d : DataW H} {p : List MemPlace} (h : DataW.Trod enc P w 0 (fun _ => true) true t v d p) :
    ∃ (p q g k : Int) (a : Option Addr) (n cap : Nat), v = gv p q g k a n cap ∧ Four p q g k ∧ n ≤ cap ∧ ∃ (N A : Nat → Int) (FA : Nat → Option Addr) (L C : Nat → Nat) (F : Nat → Nat → Int), RowsIn w a n N A FA L C F := by
  obtain ⟨fuel, hf⟩ := h
  obtain ⟨y0, y1, y2, y3, y4, m, hl, k0, k1, k2, k3, k4⟩ := trod_struct5 ht hf
  rw [ct] at hl
  cases v with
  | agg c =>
    obtain ⟨l⟩ := c
    match l, hl with
    | [v0, v1, v2, v3, v4], _ =>
      simp [Value.cells, o0, o1, o2, o3, o4, t0, t1, t2, t3, t4, cu, cr] at k0 k1 k2 k3 k4
      obtain ⟨x0, e0, _, w0⟩ := DataW.trod_int hu k0
      obtain ⟨x1, e1, _, w1⟩ := DataW.trod_int hu k1
      obtain ⟨x2, e2, _, w2⟩ := DataW.trod_int hu k2
      obtain ⟨x3, e3, _, w3⟩ := DataW.trod_int hu k3
      simp at e0 e1 e2 e3
      subst e0 e1 e2 e3
      have hv4 : ∃ a n cap, v4 = .slice a n cap := by
        rcases open_slice hr k4 with ⟨hcs, _⟩ | ⟨a', len, cap', _, _, _, _, hcs, _⟩
        · exact ⟨none, 0, 0, by simpa using hcs⟩
        · exact ⟨some a', len, cap', by simpa using hcs⟩
      obtain ⟨a, n, cap, rfl⟩ := hv4
      have ko : DataW.Trod enc P w 0 (fun _ => true) true r (.slice a n cap) y4.1 y4.2 := ⟨m, by simpa [Value.cells] using k4⟩
      obtain ⟨hcap, N, A, FA, L, C, F, hin⟩ := open_rows hr he hu hs p0 p1 p2 s0 s1 s2 ce cu cs ko
      have b0 := bounds_u64 w0
      have b1 := bounds_u64 w1
      have b2 := bounds_u64 w2
      have b3 := bounds_u64 w3
      exact ⟨x0, x1, x2, x3, a, n, cap, rfl, ⟨b0.1, b0.2, b1.1, b1.2, b2.1, b2.2, b3.1, b3.2⟩, hcap, N, A, FA, L, C, F, hin⟩
  | _ => simp [Value.cells] at hl

end
end Go.Proofs.YtlnmjbbpenhdbaaGreat

namespace Go.Proofs.YtlnmjbbpenhdbaaGreat
open Go.RowKit Go.ChangeShapes Go.WideShapes Go.Deep

section
variable {H : Type} {enc : TypeId × Value → H} {P : Program} {w : World}

theorem open_u64 {e : TypeId} (he : P.underlying e = some (.int .u64)) {m : Nat} {c : Value} {y : DataW H × List MemPlace} (h : DataW.trod enc P w 0 (fun _ => true) true m e [c] = some y) : ∃ x : Int, c = .int .u64 x ∧ U64 x := by
  obtain ⟨x, hx, _, hw⟩ := DataW.trod_int he h
  simp at hx
  exact ⟨x, hx, (bounds_u64 hw).1, (bounds_u64 hw).2⟩

/-- A pair's cells. -/
theorem pair_cells {t u : TypeId} {f0 f1 : Field} (ht : P.underlying t = some (.struct #[f0, f1])) (hu : P.underlying u = some (.int .u64)) (o0 : f0.offset = 0) (o1 : f1.offset = 1) (t0 : f0.type = u) (t1 : f1.type = u) (ct : P.cellsOf t = 2) (cu : P.cellsOf u = 1) {fuel : Nat} {cs : List Value} {x : DataW H × List MemPlace} (h : DataW.trod enc P w 0 (fun _ => true) true fuel t cs = some x) :
    ∃ x y : Int, cs = [.int .u64 x, .int .u64 y] ∧ U64 x ∧ U64 y := by
  obtain ⟨xs, n, _, rfl, hl, hlen, hf⟩ := DataW.trod_struct ht h
  rw [ct] at hl
  have g0 := hf 0 f0 rfl
  have g1 := hf 1 f1 rfl
  have hlen : xs.length = 2 := hlen
  rw [List.getElem?_eq_getElem (by omega)] at g0 g1
  match cs, hl with
  | [a, b], _ =>
    simp [o0, o1, t0, t1, cu] at g0 g1
    obtain ⟨x, rfl, bx⟩ := open_u64 hu g0
    obtain ⟨y, rfl, by_⟩ := open_u64 hu g1
    exact ⟨x, y, rfl, bx, by_⟩
end
end Go.Proofs.YtlnmjbbpenhdbaaGreat

namespace Go.Proofs.YtlnmjbbpenhdbaaGreat
open Go.RowKit Go.ChangeShapes Go.WideShapes Go.Deep

section
variable {H : Type} {enc : TypeId × Value → H} {P : Program} {w : World}

theorem open_str {st : TypeId} (hst : P.underlying st = some .string) {m : Nat} {c : Value} {y : DataW H × List MemPlace} (h : DataW.trod enc P w 0 (fun _ => true) true m st [c] = some y) : ∃ lab : List Int, c = .string (strOfNums lab) ∧ Bts lab := by
  obtain ⟨s, hs, _, _⟩ := DataW.trod_string hst h
  simp at hs
  subst hs
  exact ⟨numsOf s, by rw [numsOf_str], numsOf_bd s⟩

theorem arr3_cells {t e : TypeId} (ht : P.underlying t = some (.array 3 e)) (he : P.underlying e = some (.int .u64)) (hc : P.cellsOf e = 1) (hk : P.cellsOf t = 3) {fuel : Nat} {cs : List Value} {x : DataW H × List MemPlace} (h : DataW.trod enc P w 0 (fun _ => true) true fuel t cs = some x) :
    ∃ x y z : Int, cs = [.int .u64 x, .int .u64 y, .int .u64 z] ∧ U64 x ∧ U64 y ∧ U64 z := by
  obtain ⟨xs, m, _, _, hl, hlx, hi⟩ := DataW.trod_array ht h
  rw [hk] at hl
  have g0 := hi 0 (by omega)
  have g1 := hi 1 (by omega)
  have g2 := hi 2 (by omega)
  rw [hc, List.getElem?_eq_getElem (by omega)] at g0 g1 g2
  match cs, hl with
  | [a, b, c], _ =>
    simp at g0 g1 g2
    obtain ⟨x, rfl, bx⟩ := open_u64 he g0
    obtain ⟨y, rfl, by_⟩ := open_u64 he g1
    obtain ⟨z, rfl, bz⟩ := open_u64 he g2
    exact ⟨x, y, z, rfl, bx, by_, bz⟩
end
end Go.Proofs.YtlnmjbbpenhdbaaGreat

namespace Go.Proofs.YtlnmjbbpenhdbaaGreat
set_option linter.unusedVariables false
open Go.RowKit Go.ChangeShapes Go.WideShapes Go.Deep

section
variable {H : Type} {enc : TypeId × Value → H} {P : Program} {w : World}

/-- A list of elements of sz whole numbers each. -/
theorem open_nums8 {t e : TypeId} {sz : Nat} (mk : Int → Value) (Bd : Int → Prop) (hsz : 0 < sz) (ht : P.underlying t = some (.slice e)) (ce : P.cellsOf e = sz)
    (dec : ∀ (fuel : Nat) (cs : List Value) (x : DataW H × List MemPlace), DataW.trod enc P w 0 (fun _ => true) true fuel e cs = some x → ∃ F : Nat → Int, ∀ k, k < sz → cs[k]? = some (mk (F k)) ∧ Bd (F k))
    {fuel : Nat} {v : Value} {x : DataW H × List MemPlace} (h : DataW.trod enc P w 0 (fun _ => true) true fuel t [v] = some x) :
    ∃ (a : Option Addr) (n cap : Nat) (F : Nat → Nat → Int), v = .slice a n cap ∧ n ≤ cap ∧ cap ≤ 9223372036854775807 ∧ (n = 0 ∨ ∃ b off, a = some ⟨b, off, none⟩ ∧ b < w.heap.size ∧ ∀ j, j < n → ∀ k, k < sz → w.cell? ⟨b, off + j * sz + k, none⟩ = some (mk (F j k)) ∧ Bd (F j k)) := by
  rcases open_slice ht h with ⟨hcs, _⟩ | ⟨a', len, cap', m, k, D, Pl, hcs, _, hl, hm, hmm, _, hx⟩
  · exact ⟨none, 0, 0, fun _ _ => 0, by simpa using hcs, Nat.le_refl _, Nat.zero_le _, Or.inl rfl⟩
  simp only [if_true] at hmm
  subst hmm
  unfold maxLen at hm
  have hv : v = .slice (some a') len m := by simpa using hcs
  by_cases h0 : len = 0
  · exact ⟨some a', len, m, fun _ _ => 0, hv, hl, by omega, Or.inl h0⟩
  rw [ce] at hx
  obtain ⟨b, off, spot⟩ := a'
  have hspot : spot = none := by
    obtain ⟨cs0, hc0, _⟩ := hx 0 (by omega)
    obtain ⟨_, hlen, hcell⟩ := World.cells?_some hc0
    have g := hcell 0 (by omega)
    have : ∃ v, cs0[0]? = some v := ⟨cs0[0], by simp⟩
    obtain ⟨v, hv⟩ := this
    rw [hv] at g
    simpa [Addr.add] using World.cell?_spot g
  subst hspot
  have each : ∀ i, i < m → ∃ y : Nat → Int, ∀ k, k < sz → w.cell? ⟨b, off + i * sz + k, none⟩ = some (mk (y k)) ∧ Bd (y k) := by
    intro i hi
    obtain ⟨cs', h1, h2⟩ := hx i hi
    obtain ⟨_, hlen, hcell⟩ := World.cells?_some h1
    obtain ⟨F, hF⟩ := dec _ _ _ h2
    refine ⟨F, fun k hk => ⟨?_, (hF k hk).2⟩⟩
    have c0 := hcell k (by omega)
    simp only [add_plain] at c0
    rw [c0]
    exact (hF k hk).1
  obtain ⟨y, hy⟩ := choose_lt each
  exact ⟨some ⟨b, off, none⟩, len, m, y, hv, hl, by omega, Or.inr ⟨b, off, rfl, cell_lt (hy 0 (by omega) 0 hsz).1, fun i hi => hy i (by omega)⟩⟩

theorem open_boxes8 {t e p u : TypeId} {f0 f1 : Field} (ht : P.underlying t = some (.slice e)) (he : P.underlying e = some (.array 3 p)) (hp : P.underlying p = some (.struct #[f0, f1])) (hu : P.underlying u = some (.int .u64)) (o0 : f0.offset = 0) (o1 : f1.offset = 1) (t0 : f0.type = u) (t1 : f1.type = u) (ce : P.cellsOf e = 6) (cp : P.cellsOf p = 2) (cu : P.cellsOf u = 1)
    {fuel : Nat} {v : Value} {x : DataW H × List MemPlace} (h : DataW.trod enc P w 0 (fun _ => true) true fuel t [v] = some x) :
    ∃ (a : Option Addr) (n cap : Nat) (C : Nat → Nat → Int), v = .slice a n cap ∧ n ≤ cap ∧ cap ≤ 9223372036854775807 ∧ BoxsIn w a n C :=
  open_nums8 (.int .u64) U64 (by omega) ht ce (fun fuel cs x h => by
    obtain ⟨xs, n, _, _, hl, hlx, hi⟩ := DataW.trod_array he h
    rw [ce] at hl
    have g0 := hi 0 (by omega)
    have g1 := hi 1 (by omega)
    have g2 := hi 2 (by omega)
    rw [cp, List.getElem?_eq_getElem (by omega)] at g0 g1 g2
    match cs, hl with
    | [a, b, c, d', e', f'], _ =>
      simp at g0 g1 g2
      obtain ⟨x0, y0, e0, a0, b0⟩ := pair_cells hp hu o0 o1 t0 t1 cp cu g0
      obtain ⟨x1, y1, e1, a1, b1⟩ := pair_cells hp hu o0 o1 t0 t1 cp cu g1
      obtain ⟨x2, y2, e2, a2, b2⟩ := pair_cells hp hu o0 o1 t0 t1 cp cu g2
      simp at e0 e1 e2
      obtain ⟨rfl, rfl⟩ := e0
      obtain ⟨rfl, rfl⟩ := e1
      obtain ⟨rfl, rfl⟩ := e2
      refine ⟨fun k => [x0, y0, x1, y1, x2, y2].getD k 0, fun k hk => ?_⟩
      match k, hk with
      | 0, _ => exact ⟨rfl, a0⟩
      | 1, _ => exact ⟨rfl, b0⟩
      | 2, _ => exact ⟨rfl, a1⟩
      | 3, _ => exact ⟨rfl, b1⟩
      | 4, _ => exact ⟨rfl, a2⟩
      | 5, _ => exact ⟨rfl, b2⟩) h
theorem open_rhos8 {t e u : TypeId} (ht : P.underlying t = some (.slice e)) (he : P.underlying e = some (.array 3 u)) (hu : P.underlying u = some (.int .u64)) (ce : P.cellsOf e = 3) (cu : P.cellsOf u = 1)
    {fuel : Nat} {v : Value} {x : DataW H × List MemPlace} (h : DataW.trod enc P w 0 (fun _ => true) true fuel t [v] = some x) :
    ∃ (a : Option Addr) (n cap : Nat) (R : Nat → Nat → Int), v = .slice a n cap ∧ n ≤ cap ∧ cap ≤ 9223372036854775807 ∧ RhoIn w a n R :=
  open_nums8 (.int .u64) U64 (by omega) ht ce (fun fuel cs x h => by
    obtain ⟨a, b, c, rfl, h0, h1, h2⟩ := arr3_cells he hu cu ce h
    refine ⟨fun k => [a, b, c].getD k 0, fun k hk => ?_⟩
    match k, hk with
    | 0, _ => exact ⟨rfl, h0⟩
    | 1, _ => exact ⟨rfl, h1⟩
    | 2, _ => exact ⟨rfl, h2⟩) h
theorem open_order8 {t e : TypeId} (ht : P.underlying t = some (.slice e)) (he : P.underlying e = some (.int .i64)) (ce : P.cellsOf e = 1)
    {fuel : Nat} {v : Value} {x : DataW H × List MemPlace} (h : DataW.trod enc P w 0 (fun _ => true) true fuel t [v] = some x) :
    ∃ (a : Option Addr) (n cap : Nat) (O : Nat → Int), v = .slice a n cap ∧ n ≤ cap ∧ cap ≤ 9223372036854775807 ∧ IntsIn w a n O := by
  obtain ⟨a, n, cap, F, e1, q1, q2, hF⟩ := open_nums8 (.int .i64) (fun x => -9223372036854775808 ≤ x ∧ x ≤ 9223372036854775807) (by omega) ht ce (fun fuel cs x h => by
    obtain ⟨x, hx, _, hw⟩ := DataW.trod_int he h
    subst hx
    refine ⟨fun _ => x, fun k hk => ?_⟩
    have : k = 0 := by omega
    subst this
    exact ⟨rfl, (bounds_i64 hw).1, (bounds_i64 hw).2⟩) h
  refine ⟨a, n, cap, fun j => F j 0, e1, q1, q2, ?_⟩
  rcases hF with h0 | ⟨b, off, ha, hb, hc⟩
  · exact Or.inl h0
  · exact Or.inr ⟨b, off, ha, hb, fun j hj => by have := hc j hj 0 (by omega); rwa [Nat.mul_one, Nat.add_zero] at this⟩
theorem open_nats8 {t u : TypeId} (ht : P.underlying t = some (.slice u)) (hu : P.underlying u = some (.int .u64)) (cu : P.cellsOf u = 1) {fuel : Nat} {v : Value} {x : DataW H × List MemPlace} (h : DataW.trod enc P w 0 (fun _ => true) true fuel t [v] = some x) :
    ∃ (a : Option Addr) (n cap : Nat) (F : Nat → Int), v = .slice a n cap ∧ n ≤ cap ∧ cap ≤ 9223372036854775807 ∧ FacsIn w a n F := by
  obtain ⟨a, n, cap, F, e, q1, q2, hF⟩ := open_facs ht hu cu h
  unfold maxLen at q2
  exact ⟨a, n, cap, F, e, q1, by omega, hF⟩
/-- What is known of draws that came in. -/
def DrawsIn (w : World) (bρ : Option Addr) (nρ cρ : Nat) (Rh : Nat → Nat → Int) (bR : Option Addr) (nR cR : Nat) (R : Nat → Int) (bS : Option Addr) (nS cS : Nat) (S : Nat → Int) (bT : Option Addr) (nT cT : Nat) (T : Nat → Int) (bD : Option Addr) (nD cD : Nat) (D : Nat → Int) : Prop :=
  RhoIn w bρ nρ Rh ∧ FacsIn w bR nR R ∧ FacsIn w bS nS S ∧ (nT ≤ cT ∧ cT ≤ 9223372036854775807) ∧ FacsIn w bT nT T ∧ (nD ≤ cD ∧ cD ≤ 9223372036854775807) ∧ FacsIn w bD nD D
theorem draws_cells {t r ar s u : TypeId} {f0 f1 f2 f3 f4 : Field} (ht : P.underlying t = some (.struct #[f0, f1, f2, f3, f4])) (hr : P.underlying r = some (.slice ar)) (har : P.underlying ar = some (.array 3 u)) (hs : P.underlying s = some (.slice u)) (hu : P.underlying u = some (.int .u64)) (o0 : f0.offset = 0) (o1 : f1.offset = 1) (o2 : f2.offset = 2) (o3 : f3.offset = 3) (o4 : f4.offset = 4) (t0 : f0.type = r) (t1 : f1.type = s) (t2 : f2.type = s) (t3 : f3.type = s) (t4 : f4.type = s) (ct : P.cellsOf t = 5) (cr : P.cellsOf r = 1) (car : P.cellsOf ar = 3) (cs1 : P.cellsOf s = 1) (cu : P.cellsOf u = 1) {fuel : Nat} {cs : List Value} {x : DataW H × List MemPlace} (h : DataW.trod enc P w 0 (fun _ => true) true fuel t cs = some x) :
    ∃ bρ nρ cρ Rh bR nR cR R bS nS cS S bT nT cT T bD nD cD D, cs = [.slice bρ nρ cρ, .slice bR nR cR, .slice bS nS cS, .slice bT nT cT, .slice bD nD cD] ∧ DrawsIn w bρ nρ cρ Rh bR nR cR R bS nS cS S bT nT cT T bD nD cD D := by
  obtain ⟨xs, n, _, _, hl, hlen, hf⟩ := DataW.trod_struct ht h
  rw [ct] at hl
  have g0 := hf 0 f0 rfl
  have g1 := hf 1 f1 rfl
  have g2 := hf 2 f2 rfl
  have g3 := hf 3 f3 rfl
  have g4 := hf 4 f4 rfl
  have hlen : xs.length = 5 := hlen
  rw [List.getElem?_eq_getElem (by omega)] at g0 g1 g2 g3 g4
  match cs, hl with
  | [a, b, c, d, e], _ =>
    simp [o0, o1, o2, o3, o4, t0, t1, t2, t3, t4, cr, cs1] at g0 g1 g2 g3 g4
    obtain ⟨bρ, nρ, cρ, Rh, rfl, _, _, h0⟩ := open_rhos8 hr har hu car cu g0
    obtain ⟨bR, nR, cR, R, rfl, _, _, h1⟩ := open_nats8 hs hu cu g1
    obtain ⟨bS, nS, cS, S, rfl, _, _, h2⟩ := open_nats8 hs hu cu g2
    obtain ⟨bT, nT, cT, T, rfl, p3, q3, h3⟩ := open_nats8 hs hu cu g3
    obtain ⟨bD, nD, cD, D, rfl, p4, q4, h4⟩ := open_nats8 hs hu cu g4
    exact ⟨bρ, nρ, cρ, Rh, bR, nR, cR, R, bS, nS, cS, S, bT, nT, cT, T, bD, nD, cD, D, rfl, h0, h1, h2, ⟨p3, q3⟩, h3, ⟨p4, q4⟩, h4⟩
theorem open_job8 {t st bx e p o ii dt r ar s u : TypeId} {f0 f1 f2 f3 f4 g0 g1 d0 d1 d2 d3 d4 : Field} (ht : P.underlying t = some (.struct #[f0, f1, f2, f3, f4])) (hst : P.underlying st = some .string) (hbx : P.underlying bx = some (.slice e)) (he : P.underlying e = some (.array 3 p)) (hp : P.underlying p = some (.struct #[g0, g1])) (ho : P.underlying o = some (.slice ii)) (hi : P.underlying ii = some (.int .i64)) (hd : P.underlying dt = some (.struct #[d0, d1, d2, d3, d4])) (hr : P.underlying r = some (.slice ar)) (har : P.underlying ar = some (.array 3 u)) (hs : P.underlying s = some (.slice u)) (hu : P.underlying u = some (.int .u64))
    (fo : f0.offset = 0 ∧ f1.offset = 1 ∧ f2.offset = 2 ∧ f3.offset = 3 ∧ f4.offset = 4) (ft : f0.type = st ∧ f1.type = u ∧ f2.type = bx ∧ f3.type = o ∧ f4.type = dt) (go : g0.offset = 0 ∧ g1.offset = 1 ∧ g0.type = u ∧ g1.type = u) (dof : d0.offset = 0 ∧ d1.offset = 1 ∧ d2.offset = 2 ∧ d3.offset = 3 ∧ d4.offset = 4) (dty : d0.type = r ∧ d1.type = s ∧ d2.type = s ∧ d3.type = s ∧ d4.type = s)
    (cc : P.cellsOf t = 9 ∧ P.cellsOf st = 1 ∧ P.cellsOf bx = 1 ∧ P.cellsOf e = 6 ∧ P.cellsOf p = 2 ∧ P.cellsOf o = 1 ∧ P.cellsOf ii = 1 ∧ P.cellsOf dt = 5 ∧ P.cellsOf r = 1 ∧ P.cellsOf ar = 3 ∧ P.cellsOf s = 1 ∧ P.cellsOf u = 1) {v : Value} {d : DataW H} {pl : List MemPlace} (h : DataW.Trod enc P w 0 (fun _ => true) true t v d pl) :
    ∃ (label : List Int) (y : Int) (bi : Option Addr) (l ci : Nat) (C : Nat → Nat → Int) (bo : Option Addr) (no co : Nat) (O : Nat → Int) (bρ : Option Addr) (nρ cρ : Nat) (Rh : Nat → Nat → Int) (bR : Option Addr) (nR cR : Nat) (R : Nat → Int) (bS : Option Addr) (nS cS : Nat) (S : Nat → Int) (bT : Option Addr) (nT cT : Nat) (T : Nat → Int) (bD : Option Addr) (nD cD : Nat) (D : Nat → Int),
      v = jv label y bi l ci bo no co bρ nρ cρ bR nR cR bS nS cS bT nT cT bD nD cD ∧ Bts label ∧ U64 y ∧ BoxsIn w bi l C ∧ IntsIn w bo no O ∧ DrawsIn w bρ nρ cρ Rh bR nR cR R bS nS cS S bT nT cT T bD nD cD D ∧ (l ≤ ci ∧ ci ≤ 9223372036854775807) ∧ (no ≤ co ∧ co ≤ 9223372036854775807) := by
  obtain ⟨m, hm⟩ := h
  obtain ⟨xs, n, _, _, hl, hlen, hf⟩ := DataW.trod_struct ht hm
  rw [cc.1] at hl
  have k0 := hf 0 f0 rfl
  have k1 := hf 1 f1 rfl
  have k2 := hf 2 f2 rfl
  have k3 := hf 3 f3 rfl
  have k4 := hf 4 f4 rfl
  have hlen : xs.length = 5 := hlen
  rw [List.getElem?_eq_getElem (by omega)] at k0 k1 k2 k3 k4
  obtain ⟨o0, o1, o2, o3, o4⟩ := fo
  obtain ⟨t0, t1, t2, t3, t4⟩ := ft
  obtain ⟨_, cst, cbx, ce, cp, co, ci, cdt, cr, car, cs, cu⟩ := cc
  cases v with
  | agg c =>
    obtain ⟨lst⟩ := c
    match lst, hl with
    | [a, b, c, d, e1, e2, e3, e4, e5], _ =>
      simp [Value.cells, o0, o1, o2, o3, o4, t0, t1, t2, t3, t4, cst, cbx, co, cdt, cu] at k0 k1 k2 k3 k4
      obtain ⟨lab, rfl, hb⟩ := open_str hst k0
      obtain ⟨y, rfl, by_⟩ := open_u64 hu k1
      obtain ⟨bi, l, ci2, C, rfl, p2, q2, h2⟩ := open_boxes8 hbx he hp hu go.1 go.2.1 go.2.2.1 go.2.2.2 ce cp cu k2
      obtain ⟨bo, no, co2, O, rfl, p3, q3, h3⟩ := open_order8 ho hi ci k3
      obtain ⟨bρ, nρ, cρ, Rh, bR, nR, cR, R, bS, nS, cS, S, bT, nT, cT, T, bD, nD, cD, D, ecs, hdr⟩ := draws_cells hd hr har hs hu dof.1 dof.2.1 dof.2.2.1 dof.2.2.2.1 dof.2.2.2.2 dty.1 dty.2.1 dty.2.2.1 dty.2.2.2.1 dty.2.2.2.2 cdt cr car cs cu k4
      simp at ecs
      obtain ⟨rfl, rfl, rfl, rfl, rfl⟩ := ecs
      exact ⟨lab, y, bi, l, ci2, C, bo, no, co2, O, bρ, nρ, cρ, Rh, bR, nR, cR, R, bS, nS, cS, S, bT, nT, cT, T, bD, nD, cD, D, rfl, hb, by_, h2, h3, hdr, ⟨p2, q2⟩, ⟨p3, q3⟩⟩
  | _ => simp [Value.cells] at hl
end
end Go.Proofs.YtlnmjbbpenhdbaaGreat
