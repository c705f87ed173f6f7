/-
  The statement's walk (layer 5): GamalOpens.
-/
import Derived.Test.YthheogiiggiciadVapp
namespace Go.Proofs.Ythheogiiggiciad
open Go.RowKit

set_option linter.unusedSimpArgs false in
set_option maxRecDepth 100000 in
set_option maxHeartbeats 8000000 in
theorem law_opens (P Q G H m : Int) (a : Option Addr) (n cap : Nat) (N A : Nat → Int) (FA : Nat → Option Addr) (L C : Nat → Nat) (F : Nat → Nat → Int) (b1 : Option Addr) (l1 c1 : Nat) (X : Nat → Int) (b2 : Option Addr) (l2 c2 : Nat) (D : Nat → Int) (w : World) (h4 : Four P Q G H) (_hcap : n ≤ cap) (hin : RowsIn w a n N A FA L C F) (hm : U64 m) (_hc1 : l1 ≤ c1) (hX : FacsIn w b1 l1 X) (hc2 : l2 ≤ c2) (hD : FacsIn w b2 l2 D) :
    Calls Try.prog 6 #[gv P Q G H a n cap, .int .u64 m, .agg #[.slice b1 l1 c1, .slice b2 l2 c2]] w fun e w' => e = .returned (.bool true) ∧ Old w w' := by
  have HA : Hid (∀ wx, Lain w [(gc P Q G H a n cap, 25), (#[.slice b1 l1 c1, .slice b2 l2 c2], 49)] wx → Calls Try.prog 14 #[] wx fun e w' => e = .returned (.bool true) ∧ Lain w [(gc P Q G H a n cap, 25), (#[.slice b1 l1 c1, .slice b2 l2 c2], 49)] w') := fun wx hb => (awake5_any wx).mono fun e w' ⟨h, k⟩ => ⟨h, hb.then k⟩
  have HU : Hid (∀ wx, Lain w [(gc P Q G H a n cap, 25), (#[.slice b1 l1 c1, .slice b2 l2 c2], 49)] wx → Calls Try.prog 15 #[gv P Q G H a n cap] wx fun e w' => e = .returned (.bool (fewB L n && rightI P Q G H N A F L n)) ∧ Lain w [(gc P Q G H a n cap, 25), (#[.slice b1 l1 c1, .slice b2 l2 c2], 49)] w') := fun wx hb => (group5_any P Q G H a n cap N A FA L C F wx h4 (hin.old hb.old)).mono fun e w' ⟨h, k⟩ => ⟨h, hb.then k⟩
  have HL : Hid (∀ wx t, Lain w [(gc P Q G H a n cap, 25), (#[.slice b1 l1 c1, .slice b2 l2 c2], 49)] wx → Calls Try.prog 16 #[gv P Q G H a n cap, .slice (some ⟨wx.heap.size, 0, none⟩) 1 1] (wx.alloc (.cells #[.int .u64 m] t)) fun e w' => e = .returned (.bool (allB P Q (fun _ => m) 1)) ∧ Lain w [(gc P Q G H a n cap, 25), (#[.slice b1 l1 c1, .slice b2 l2 c2], 49)] w') :=
    fun wx t hb => (all5_any P Q G H a n cap _ 1 1 _ _ h4 (by decide) (facs_one wx m t hm)).mono fun e w' ⟨h, k⟩ => ⟨h, hb.then (((Old.refl _).alloc _).trans k)⟩
  have HF : Hid (∀ w', Lain w [(gc P Q G H a n cap, 25), (#[.slice b1 l1 c1, .slice b2 l2 c2], 49)] w' → w'.cell? ⟨w.heap.size, 0, none⟩ = some (.int .u64 P) ∧ w'.cell? ⟨w.heap.size, 1, none⟩ = some (.int .u64 Q) ∧ w'.cell? ⟨w.heap.size, 2, none⟩ = some (.int .u64 G) ∧ w'.cell? ⟨w.heap.size, 3, none⟩ = some (.int .u64 H) ∧ w'.cell? ⟨w.heap.size, 4, none⟩ = some (.slice a n cap) ∧ w'.cell? ⟨w.heap.size + 1, 0, none⟩ = some (.slice b1 l1 c1) ∧ w'.cell? ⟨w.heap.size + 1, 1, none⟩ = some (.slice b2 l2 c2)) := fun _ h => ⟨h.cell 0 0 (by simp) rfl, h.cell 0 1 (by simp) rfl, h.cell 0 2 (by simp) rfl, h.cell 0 3 (by simp) rfl, h.cell 0 4 (by simp) rfl, h.cell 1 0 (by simp) rfl, h.cell 1 1 (by simp) rfl⟩
  have HD : Hid (∀ wx, Lain w [(gc P Q G H a n cap, 25), (#[.slice b1 l1 c1, .slice b2 l2 c2], 49)] wx → Lain w [(gc P Q G H a n cap, 25), (#[.slice b1 l1 c1, .slice b2 l2 c2], 49)] wx.drew) := fun _ h => h.then (Old.refl _).drew
  have HE : Hid (∀ wx k, Lain w [(gc P Q G H a n cap, 25), (#[.slice b1 l1 c1, .slice b2 l2 c2], 49)] wx → Lain w [(gc P Q G H a n cap, 25), (#[.slice b1 l1 c1, .slice b2 l2 c2], 49)] (wx.drewN k)) := fun _ k h => h.then ((Old.refl _).drewN k)
  have HO : Hid (∀ wx, Lain w [(gc P Q G H a n cap, 25), (#[.slice b1 l1 c1, .slice b2 l2 c2], 49)] wx → Old w wx) := fun _ h => h.old
  have ha := hin.a0
  clear hin
  have HZ := lain2 w (gc P Q G H a n cap) #[.slice b1 l1 c1, .slice b2 l2 c2] 25 49
  have HX : Hid (FacsIn w b1 l1 X) := hX
  have HDD : Hid (FacsIn w b2 l2 D) := hD
  clear hX hD
  go_enter Try.func6, Try.ntmps6
  go_upto_region 1 with fail
  generalize hW : (w.alloc (.cells (gc P Q G H a n cap) 25)).alloc (.cells #[.slice b1 l1 c1, .slice b2 l2 c2] 49) = W at *
  clear hW
  have hb := HZ
  obtain ⟨d0, d1, d2, d3, d4, e0, e1⟩ := HF.out _ hb
  go_upto_region 3 with (go_at_call 14; refine (HA.out _ (by first | assumption | exact HD.out _ (by assumption) | exact HE.out _ _ (by assumption))).mono ?_; rintro e w1 ⟨rfl, hb⟩; obtain ⟨d0, d1, d2, d3, d4, e0, e1⟩ := HF.out _ hb)
  go_quiet (fail)
  cases hg : (fewB L n && rightI P Q G H N A F L n)
  · rw [hg] at HU
    clear hg ha h4
    go_wp2_with (first
      | (go_at_call 15; refine (HU.out _ (by first | assumption | exact HD.out _ (by assumption) | exact HE.out _ _ (by assumption))).mono ?_; rintro e w2 ⟨rfl, hb⟩; obtain ⟨d0, d1, d2, d3, d4, e0, e1⟩ := HF.out _ hb)
      | (go_at_call 16; refine (HL.out _ _ (by first | assumption | exact HD.out _ (by assumption) | exact HE.out _ _ (by assumption))).mono ?_; rintro e w3 ⟨rfl, hb⟩; obtain ⟨d0, d1, d2, d3, d4, e0, e1⟩ := HF.out _ hb))
    go_ret
    exact ⟨rfl, HO.out _ hb⟩
  have hg' := Bool.and_eq_true_iff.1 hg
  have hR := right_righ ha hg'.2
  rw [hg] at HU
  clear hg hg' ha
  cases hall : allB P Q (fun _ => m) 1
  · rw [hall] at HL
    clear hall h4 hR
    go_wp2_with (first
      | (go_at_call 15; refine (HU.out _ (by first | assumption | exact HD.out _ (by assumption) | exact HE.out _ _ (by assumption))).mono ?_; rintro e w2 ⟨rfl, hb⟩; obtain ⟨d0, d1, d2, d3, d4, e0, e1⟩ := HF.out _ hb)
      | (go_at_call 16; refine (HL.out _ _ (by first | assumption | exact HD.out _ (by assumption) | exact HE.out _ _ (by assumption))).mono ?_; rintro e w3 ⟨rfl, hb⟩; obtain ⟨d0, d1, d2, d3, d4, e0, e1⟩ := HF.out _ hb))
    go_ret
    exact ⟨rfl, HO.out _ hb⟩
  rw [hall] at HL
  have im : inI P Q m = true := allB_iff.1 hall 0 (by omega)
  clear hall
  by_cases g1 : 8 < l1
  · clear h4 hR im
    go_wp2_with (first
      | (go_at_call 15; refine (HU.out _ (by first | assumption | exact HD.out _ (by assumption) | exact HE.out _ _ (by assumption))).mono ?_; rintro e w2 ⟨rfl, hb⟩; obtain ⟨d0, d1, d2, d3, d4, e0, e1⟩ := HF.out _ hb)
      | (go_at_call 16; refine (HL.out _ _ (by first | assumption | exact HD.out _ (by assumption) | exact HE.out _ _ (by assumption))).mono ?_; rintro e w3 ⟨rfl, hb⟩; obtain ⟨d0, d1, d2, d3, d4, e0, e1⟩ := HF.out _ hb))
    go_ret
    exact ⟨rfl, HO.out _ hb⟩
  by_cases g2 : 8 < l2
  · clear h4 hR im
    go_wp2_with (first
      | (go_at_call 15; refine (HU.out _ (by first | assumption | exact HD.out _ (by assumption) | exact HE.out _ _ (by assumption))).mono ?_; rintro e w2 ⟨rfl, hb⟩; obtain ⟨d0, d1, d2, d3, d4, e0, e1⟩ := HF.out _ hb)
      | (go_at_call 16; refine (HL.out _ _ (by first | assumption | exact HD.out _ (by assumption) | exact HE.out _ _ (by assumption))).mono ?_; rintro e w3 ⟨rfl, hb⟩; obtain ⟨d0, d1, d2, d3, d4, e0, e1⟩ := HF.out _ hb))
    go_ret
    exact ⟨rfl, HO.out _ hb⟩
  by_cases g3 : l2 = 0
  · subst g3
    clear h4 hR im
    go_wp2_with (first
      | (go_at_call 15; refine (HU.out _ (by first | assumption | exact HD.out _ (by assumption) | exact HE.out _ _ (by assumption))).mono ?_; rintro e w2 ⟨rfl, hb⟩; obtain ⟨d0, d1, d2, d3, d4, e0, e1⟩ := HF.out _ hb)
      | (go_at_call 16; refine (HL.out _ _ (by first | assumption | exact HD.out _ (by assumption) | exact HE.out _ _ (by assumption))).mono ?_; rintro e w3 ⟨rfl, hb⟩; obtain ⟨d0, d1, d2, d3, d4, e0, e1⟩ := HF.out _ hb))
    go_ret
    exact ⟨rfl, HO.out _ hb⟩
  rcases HDD.out with h0 | ⟨b2b, off2, rfl, hb2b, hrd⟩
  · omega
  clear hrd
  have k1 : ¬ (8 : Int) < (l1 : Int) := by omega
  have k2 : ¬ (8 : Int) < (l2 : Int) := by omega
  have k3 : ((l2 : Int) == 0) = false := by simp; omega
  have k4 : ¬ (l2 : Int) = 0 := by omega
  go_upto_region 6 with (first
    | (go_at_call 15; refine (HU.out _ (by first | assumption | exact HD.out _ (by assumption) | exact HE.out _ _ (by assumption))).mono ?_; rintro e w2 ⟨rfl, hb⟩; obtain ⟨d0, d1, d2, d3, d4, e0, e1⟩ := HF.out _ hb)
    | (go_at_call 16; refine (HL.out _ _ (by first | assumption | exact HD.out _ (by assumption) | exact HE.out _ _ (by assumption))).mono ?_; rintro e w3 ⟨rfl, hb⟩; obtain ⟨d0, d1, d2, d3, d4, e0, e1⟩ := HF.out _ hb))
  clear d0 d1 d2 d3 d4 e0 e1
  clear HA HU HL k1 k2 k3 k4
  have HB : Hid (Lain w [(gc P Q G H a n cap, 25), (#[.slice b1 l1 c1, .slice (some ⟨b2b, off2, none⟩) l2 c2], 49)] w3) := hb
  clear hb
  have HXx : Hid (∀ i, i < l1 → U64 (X i)) := fun i hi => by
    rcases HX.out with h0 | ⟨_, _, _, _, h⟩
    · omega
    · exact (h i hi).2
  have HDx : Hid (∀ i, i < l2 → U64 (D i)) := fun i hi => by
    rcases HDD.out with h0 | ⟨_, _, _, _, h⟩
    · omega
    · exact (h i hi).2
  obtain ⟨K, hK⟩ : ∃ K : Nat → Int, K = fun i => expI P Q G (X i) := ⟨_, rfl⟩
  have HK : Hid (∀ i wx, i < l1 → Calls Try.prog 17 #[gv P Q G H a n cap, .int .u64 (X i)] wx fun e w' => e = .returned (.int .u64 (K i)) ∧ Old wx w') := fun i wx hi => (gkey_any P Q G H a n cap (X i) wx h4 hR (HXx.out i hi)).mono fun e w' ⟨h, k⟩ => ⟨by rw [h, hK], k⟩
  have HKu : Hid (∀ i, i < l1 → U64 (K i)) := fun i _ => by rw [hK]; exact u64_exp _ _ _ _
  obtain ⟨y, hy⟩ : ∃ y : Int, y = prodI P K l1 := ⟨_, rfl⟩
  have iy : inI P Q y = true := by rw [hy, hK]; exact hR.prod_in l1 fun i _ => hR.exp_in hR.gin
  have uy : U64 y := by rw [hy]; exact u64_prod _ _ _
  have HJ : Hid (∀ b c wx, l1 ≤ c → FacsIn wx b l1 K → Calls Try.prog 33 #[gv P Q G H a n cap, .slice b l1 c] wx fun e w' => e = .returned (.int .u64 y) ∧ Old wx w') := fun b c wx hc hf => (gjoin_any P Q G H a n cap b l1 c K wx h4 hR hc (by omega) hf).mono fun e w' ⟨h, k⟩ => ⟨by rw [h, hy], k⟩
  obtain ⟨u0, hu0⟩ : ∃ z : Int, z = mulI 1 (expI P Q G (D 0)) P := ⟨_, rfl⟩
  obtain ⟨v0, hv0⟩ : ∃ z : Int, z = mulI m (expI P Q y (D 0)) P := ⟨_, rfl⟩
  have HS : Hid (∀ wx, Calls Try.prog 19 #[gv P Q G H a n cap, .int .u64 y, .int .u64 m, .int .u64 (D 0)] wx fun e w' => e = .returned (pv u0 v0) ∧ Old wx w') := fun wx => (gseal_any P Q G H a n cap y m (D 0) wx h4 hR uy hm (HDx.out 0 (by omega))).mono fun e w' ⟨h, k⟩ => ⟨by rw [h, hu0, hv0], k⟩
  have HS0 : Hid (Sld P Q G m y u0 v0) := by rw [hu0, hv0]; exact hR.sld iy (HDx.out 0 (by omega)).1
  have HG : Hid (∀ u v i wx, i < l2 → Sld P Q G m y u v → ∃ u' v', Sld P Q G m y u' v' ∧ Calls Try.prog 21 #[gv P Q G H a n cap, .int .u64 y, pv u v, .int .u64 (D i)] wx fun e w' => e = .returned (pv u' v') ∧ Old wx w') := fun u v i wx hi s =>
    ⟨_, _, s.again hR iy (HDx.out i hi).1, gagain_any P Q G H a n cap y u v (D i) wx h4 hR uy s.u0 s.v0 (HDx.out i hi)⟩
  have HH : Hid (∀ u v i wx, i < l1 → Sld P Q G m y u v → Calls Try.prog 23 #[gv P Q G H a n cap, .int .u64 (X i), pv u v] wx fun e w' => e = .returned (.int .u64 (expI P Q u (X i))) ∧ Old wx w') := fun u v i wx hi s => gshare_any P Q G H a n cap (X i) u v wx h4 hR (HXx.out i hi) s.u0
  have HP : Hid (∀ u v b c wx, l1 ≤ c → Sld P Q G m y u v → FacsIn wx b l1 (fun i => expI P Q u (X i)) → Calls Try.prog 27 #[gv P Q G H a n cap, pv u v, .slice b l1 c] wx fun e w' => e = .returned (.int .u64 m) ∧ Old wx w') := fun u v b c wx hc s hf =>
    (gopen_any P Q G H a n cap u v b l1 c _ wx h4 hR s.v0 hc (by omega) hf (fun i _ => hR.exp_in s.ui)).mono fun e w' ⟨h, k⟩ => ⟨by rw [h, s.opens hR im (fun i hi => (HXx.out i hi).1) (by rw [hy, hK])], k⟩
  clear hK hy hu0 hv0 iy uy im h4 hR
  obtain ⟨i0, hi, hz0, hz1, hz2⟩ := info_parts u64info
  go_wp2_with fail
  go_loopw [9, 52] (fun v iv wx => ∃ i : Nat, iv = .int .i64 (i : Int) ∧ i ≤ l1 ∧ Hid (Nums wx w3.heap.size v i K) ∧ Hid (Old w3 wx)) (fun _ iv _ => l1 - (intOf iv).toNat)
  case atStart => exact ⟨0, rfl, Nat.zero_le _, nums_nil _ _ _, Old.refl _⟩
  case round =>
    obtain ⟨i, rfl, hi1, HN, HW⟩ := hrel
    by_cases hlt : i < l1
    · rcases HX.out.old (HB.out.old.trans HW.out) with h0 | ⟨bb, off, rfl, hbb, hrr⟩
      · omega
      have cx := (hrr i hlt).1
      clear hrr hbb
      obtain ⟨d0, d1, d2, d3, d4, e0, e1⟩ := HF.out _ (HB.out.then HW.out)
      have HK' : Hid (∀ wx, Calls Try.prog 17 #[gv P Q G H a n cap, .int .u64 (X i)] wx fun e w' => e = .returned (.int .u64 (K i)) ∧ Old wx w') := fun wx => HK.out i wx hlt
      go_upto_region 10 with fail
      go_wp2_with (first
        | (go_at_call 17; refine (HK'.out _).mono ?_; rintro e w4 ⟨rfl, ho4⟩; have hown := HN.out.old ho4; have HW4 : Hid (Old w3 w4) := HW.out.trans ho4; have hs4 := HW4.out.size; clear ho4)
        | (at_builtin; refine wpList_append_own _ rfl _ _ 42 rfl w3.heap.size 22 i0 (.int .u64 0) 1 8 Try.underlying42 hi hz0 hz1 hz2 rfl (by decide) _ _ _ rfl (World.ownsRow.alloc hown _) ⟨w4.heap.size, 0, none⟩ 1 1 [.int .u64 (K i)] rfl rfl ?c1 ?c2 ?c3 ?c4 ?c5 ?_))
      case c1 => exact cell_one_new _ _ _
      case c2 => intro u hu; simp at hu; subst hu; rfl
      case c3 => unfold maxLen; omega
      case c4 => omega
      case c5 => simp; omega
      intro v' w5 hown' hgrow _
      have HN5 : Hid (Nums w5 w3.heap.size v' (i + 1) K) := Nums.app hown' rfl
      have HW5 : Hid (Old w3 w5) := Nums.grown hown HW4.out hgrow
      clear hown' hgrow hown HN HW HW4 hs4 cx
      clear d0 d1 d2 d3 d4 e0 e1
      go_wp2
      go_roundw
      case rel => exact ⟨i + 1, idx_next i, by omega, HN5, HW5⟩
      case measure => simp [intOf]; omega
    · have he : l1 = i := by omega
      subst he
      obtain ⟨bk, ck, rfl, hck, hfk⟩ := HN.out.facs HKu.out
      have HJ' : Hid (Calls Try.prog 33 #[gv P Q G H a n cap, .slice bk l1 ck] wr fun e w' => e = .returned (.int .u64 y) ∧ Old wr w') := HJ.out _ _ _ hck hfk
      obtain ⟨d0, d1, d2, d3, d4, e0, e1⟩ := HF.out _ (HB.out.then HW.out)
      clear hfk HN
      go_upto_region 13 with (go_at_call 33; refine HJ'.out.mono ?_; rintro e w4 ⟨rfl, ho4⟩; have HB4 : Hid (Lain w [(gc P Q G H a n cap, 25), (#[.slice b1 l1 c1, .slice (some ⟨b2b, off2, none⟩) l2 c2], 49)] w4) := (HB.out.then HW.out).then ho4)
      clear d0 d1 d2 d3 d4 e0 e1
      clear ho4 HJ' HW HJ HK HB
      have HTT : Hid (∀ w', Old w4 w' → w'.cell? ⟨w.heap.size, 0, none⟩ = some (.int .u64 P) ∧ w'.cell? ⟨w.heap.size, 1, none⟩ = some (.int .u64 Q) ∧ w'.cell? ⟨w.heap.size, 2, none⟩ = some (.int .u64 G) ∧ w'.cell? ⟨w.heap.size, 3, none⟩ = some (.int .u64 H) ∧ w'.cell? ⟨w.heap.size, 4, none⟩ = some (.slice a n cap) ∧ w'.cell? ⟨w.heap.size + 1, 0, none⟩ = some (.slice b1 l1 c1) ∧ w'.cell? ⟨w.heap.size + 1, 1, none⟩ = some (.slice (some ⟨b2b, off2, none⟩) l2 c2) ∧ w'.cell? ⟨b2b, off2, none⟩ = some (.int .u64 (D 0))) := fun w' ho => by
        obtain ⟨d0, d1, d2, d3, d4, e0, e1⟩ := HF.out _ (HB4.out.then ho)
        rcases HDD.out.old (HB4.out.old.trans ho) with h0 | ⟨_, _, hq, _, hrr⟩
        · omega
        · cases hq
          exact ⟨d0, d1, d2, d3, d4, e0, e1, by simpa using (hrr 0 (by omega)).1⟩
      obtain ⟨d0, d1, d2, d3, d4, e0, e1, cd⟩ := HTT.out _ (Old.refl _)
      have hw4 : w.heap.size + 2 ≤ w4.heap.size := HB4.out.size
      have q1 : 0 < l2 := by omega
      have q2 : (0 : Int) < (l2 : Int) := by omega
      go_cut [13] (fun pv wx => ∃ b, pv = .pointer (some ⟨b, 0, none⟩) ∧ Hid (Pd w [(gc P Q G H a n cap, 25), (#[.slice b1 l1 c1, .slice (some ⟨b2b, off2, none⟩) l2 c2], 49)] b u0 v0 wx))
      case first =>
        go_region_held3 (fun w' => w'.cell? ⟨w.heap.size, 0, none⟩ = some (.int .u64 P) ∧ w'.cell? ⟨w.heap.size, 1, none⟩ = some (.int .u64 Q) ∧ w'.cell? ⟨w.heap.size, 2, none⟩ = some (.int .u64 G) ∧ w'.cell? ⟨w.heap.size, 3, none⟩ = some (.int .u64 H) ∧ w'.cell? ⟨w.heap.size, 4, none⟩ = some (.slice a n cap) ∧ w'.cell? ⟨w.heap.size + 1, 0, none⟩ = some (.slice b1 l1 c1) ∧ w'.cell? ⟨w.heap.size + 1, 1, none⟩ = some (.slice (some ⟨b2b, off2, none⟩) l2 c2) ∧ w'.cell? ⟨b2b, off2, none⟩ = some (.int .u64 (D 0))) (first | exact HTT.out _ (by assumption) | (go_keep; done) | (and_intros <;> (refine cell_far ?_ (cell_far ?_ ?_) <;> first | assumption | omega))) (first
          | (go_at_call 19; refine (HS.out _).mono ?_; rintro e w5 ⟨rfl, ho5⟩; have hq : Old w4 w5 := Old.trans (by first | exact (Old.refl _).drew | exact (Old.refl _).drew.alloc _) ho5; have hl5 : Lain w [(gc P Q G H a n cap, 25), (#[.slice b1 l1 c1, .slice (some ⟨b2b, off2, none⟩) l2 c2], 49)] w5 := HB4.out.then hq; obtain ⟨s0, s1, s2, s3, s4, s5, s6, s7⟩ := HTT.out _ hq; (try (have hpd : Pd w [(gc P Q G H a n cap, 25), (#[.slice b1 l1 c1, .slice (some ⟨b2b, off2, none⟩) l2 c2], 49)] w4.heap.size 0 0 w5 := Pd.early (x := w4.drew) (HB4.out.then (Old.refl _).drew) ho5; have hrow := hpd.row; have q0 : _ = some (Value.int .u64 0) := cell_of_row _ _ 0 _ _ (0, 0) hrow; have q1 : _ = some (Value.int .u64 0) := cell_of_row _ _ 1 _ _ (0, 0) hrow; have f0 := row_frozen hrow 0; have f1 := row_frozen hrow 1; clear hrow))))
        all_goals
          go_wp2_with fail
          go_meet
          case rel => first
            | exact ⟨_, rfl, Pd.last hl5 _ _⟩
            | exact ⟨_, rfl, Pd.set hpd _ _⟩
      obtain ⟨b, rfl, HPD⟩ := hcut
      clear d0 d1 d2 d3 d4 e0 e1
      clear cd HTT hw4 HB4 HS hb2b
      go_upto_region 14 with fail
      go_cut [74, 75, 76] (fun sv lv iv wx => ∃ b3 c3, sv = .slice b3 (l2 - 1) c3 ∧ lv = .int .i64 ((l2 - 1 : Nat) : Int) ∧ iv = .int .i64 0 ∧ wx = wc ∧ Hid (FacsIn w b3 (l2 - 1) (fun i => D (i + 1))))
      case first =>
        go_wp2_with fail
        case inl h =>
          subst h
          go_meet
          case rel => exact ⟨_, _, rfl, rfl, rfl, rfl, Or.inl (by omega)⟩
        case inr h =>
          go_meet
          case rel => exact ⟨_, _, rfl, rfl, rfl, rfl, facs_tail HDD.out⟩
      obtain ⟨b3, c3, rfl, rfl, rfl, rfl, HD3⟩ := hcut
      have q3 : 0 ≤ l2 - 1 := Nat.zero_le _
      go_wp2_with fail
      go_loopw [76] (fun iv wx => ∃ i : Nat, ∃ u v : Int, iv = .int .i64 (i : Int) ∧ i ≤ l2 - 1 ∧ Hid (Pd w [(gc P Q G H a n cap, 25), (#[.slice b1 l1 c1, .slice (some ⟨b2b, off2, none⟩) l2 c2], 49)] b u v wx) ∧ Hid (Sld P Q G m y u v)) (fun iv _ => l2 - 1 - (intOf iv).toNat)
      case atStart => exact ⟨0, u0, v0, rfl, Nat.zero_le _, HPD, HS0⟩
      case round =>
        obtain ⟨i, u, v, rfl, hi2, HPr, HSr⟩ := hrel
        by_cases hlt : i < l2 - 1
        · rcases HD3.out.old HPr.out.lain.old with h0 | ⟨bb, off, rfl, hbb, hrr⟩
          · omega
          have cx : wr.cell? ⟨bb, off + i, none⟩ = some (.int .u64 (D (i + 1))) := (hrr i hlt).1
          clear hrr hbb
          obtain ⟨u', v', s', HA'⟩ := HG.out u v (i + 1) wr (by omega) HSr.out
          have HA2 : Hid (Calls Try.prog 21 #[gv P Q G H a n cap, .int .u64 y, pv u v, .int .u64 (D (i + 1))] wr fun e w' => e = .returned (pv u' v') ∧ Old wr w') := HA'
          have HS2 : Hid (Sld P Q G m y u' v') := s'
          clear s' HA'
          generalize D (i + 1) = dd at *
          obtain ⟨d0, d1, d2, d3, d4, e0, e1⟩ := HF.out _ HPr.out.lain
          have cc0 := HPr.out.c0
          have cc1 := HPr.out.c1
          go_upto_region 17 with fail
          go_wp2_with (go_at_call 21; refine HA2.out.mono ?_; rintro e w5 ⟨rfl, ho5⟩; have HP5 : Hid (Pd w [(gc P Q G H a n cap, 25), (#[.slice b1 l1 c1, .slice (some ⟨b2b, off2, none⟩) l2 c2], 49)] b u v w5) := HPr.out.then ho5; have hrow := HP5.out.row; have q0 : _ = some (Value.int .u64 u) := cell_of_row _ _ 0 _ _ (0, 0) hrow; have q1 : _ = some (Value.int .u64 v) := cell_of_row _ _ 1 _ _ (0, 0) hrow; have f0 := row_frozen hrow 0; have f1 := row_frozen hrow 1; clear hrow ho5)
          go_roundw
          case rel => exact ⟨i + 1, u', v', idx_next i, by omega, HP5.out.set u' v', HS2⟩
          case measure => simp [intOf]; omega
        · have he : l2 - 1 = i := by omega
          subst he
          obtain ⟨SF, hSF⟩ : ∃ S : Nat → Int, S = fun i => expI P Q u (X i) := ⟨_, rfl⟩
          have HH2 : Hid (∀ i wx, i < l1 → Calls Try.prog 23 #[gv P Q G H a n cap, .int .u64 (X i), pv u v] wx fun e w' => e = .returned (.int .u64 (SF i)) ∧ Old wx w') := fun i wx hi => (HH.out u v i wx hi HSr.out).mono fun e w' ⟨h, k⟩ => ⟨by rw [h, hSF], k⟩
          have HP2 : Hid (∀ b c wx, l1 ≤ c → FacsIn wx b l1 SF → Calls Try.prog 27 #[gv P Q G H a n cap, pv u v, .slice b l1 c] wx fun e w' => e = .returned (.int .u64 m) ∧ Old wx w') := fun b c wx hc hf => HP.out u v b c wx hc HSr.out (by rw [← hSF]; exact hf)
          have HSu : Hid (∀ i, i < l1 → U64 (SF i)) := fun i _ => by rw [hSF]; exact u64_exp _ _ _ _
          clear hSF HH HP HG HSr HS0 HPD HD3
          obtain ⟨wl, hwl⟩ : ∃ x : World, x = wr := ⟨_, rfl⟩
          have HPl : Hid (Pd w [(gc P Q G H a n cap, 25), (#[.slice b1 l1 c1, .slice (some ⟨b2b, off2, none⟩) l2 c2], 49)] b u v wl) := by rw [hwl]; exact HPr
          have HWl : Hid (Old wl wr) := by rw [hwl]; exact Old.refl _
          clear HPr hwl
          go_wp2_with fail
          go_loopw [16, 88] (fun v iv wx => ∃ i : Nat, iv = .int .i64 (i : Int) ∧ i ≤ l1 ∧ Hid (Nums wx wl.heap.size v i SF) ∧ Hid (Old wl wx)) (fun _ iv _ => l1 - (intOf iv).toNat)
          case atStart => exact ⟨0, rfl, Nat.zero_le _, nums_nil _ _ _, HWl⟩
          clear HWl
          case round =>
            obtain ⟨i, rfl, hi3, HN, HW⟩ := hrel
            by_cases hlt : i < l1
            · rcases HX.out.old (HPl.out.lain.old.trans HW.out) with h0 | ⟨bb, off, rfl, hbb, hrr⟩
              · omega
              have cx := (hrr i hlt).1
              clear hrr hbb
              obtain ⟨d0, d1, d2, d3, d4, e0, e1⟩ := HF.out _ (HPl.out.lain.then HW.out)
              have cc0 := (HPl.out.then HW.out).c0
              have cc1 := (HPl.out.then HW.out).c1
              have HH' : Hid (∀ wx, Calls Try.prog 23 #[gv P Q G H a n cap, .int .u64 (X i), pv u v] wx fun e w' => e = .returned (.int .u64 (SF i)) ∧ Old wx w') := fun wx => HH2.out i wx hlt
              go_upto_region 23 with fail
              go_wp2_with (first
                | (go_at_call 23; refine (HH'.out _).mono ?_; rintro e w4 ⟨rfl, ho4⟩; have hown := HN.out.old ho4; have HW4 : Hid (Old wl w4) := HW.out.trans ho4; have hs4 := HW4.out.size; clear ho4)
                | (at_builtin; refine wpList_append_own _ rfl _ _ 42 rfl wl.heap.size 22 i0 (.int .u64 0) 1 8 Try.underlying42 hi hz0 hz1 hz2 rfl (by decide) _ _ _ rfl (World.ownsRow.alloc hown _) ⟨w4.heap.size, 0, none⟩ 1 1 [.int .u64 (SF i)] rfl rfl ?c1 ?c2 ?c3 ?c4 ?c5 ?_))
              case c1 => exact cell_one_new _ _ _
              case c2 => intro u hu; simp at hu; subst hu; rfl
              case c3 => unfold maxLen; omega
              case c4 => omega
              case c5 => simp; omega
              intro v' w5 hown' hgrow _
              have HN5 : Hid (Nums w5 wl.heap.size v' (i + 1) SF) := Nums.app hown' rfl
              have HW5 : Hid (Old wl w5) := Nums.grown hown HW4.out hgrow
              clear hown' hgrow hown HN HW HW4 hs4 cx cc0 cc1
              clear d0 d1 d2 d3 d4 e0 e1
              go_wp2
              go_roundw
              case rel => exact ⟨i + 1, idx_next i, by omega, HN5, HW5⟩
              case measure => simp [intOf]; omega
            · have he : l1 = i := by omega
              subst he
              obtain ⟨bk2, ck2, rfl, hck2, hfk⟩ := HN.out.facs HSu.out
              have HP' : Hid (Calls Try.prog 27 #[gv P Q G H a n cap, pv u v, .slice bk2 l1 ck2] wr fun e w' => e = .returned (.int .u64 m) ∧ Old wr w') := HP2.out _ _ _ hck2 hfk
              obtain ⟨d0, d1, d2, d3, d4, e0, e1⟩ := HF.out _ (HPl.out.lain.then HW.out)
              have cc0 := (HPl.out.then HW.out).c0
              have cc1 := (HPl.out.then HW.out).c1
              clear hfk HN
              go_wp2_with (go_at_call 27; refine HP'.out.mono ?_; rintro e w4 ⟨rfl, ho4⟩)
              go_ret
              exact ⟨rfl, (HPl.out.lain.old.trans HW.out).trans ho4⟩





end Go.Proofs.Ythheogiiggiciad
