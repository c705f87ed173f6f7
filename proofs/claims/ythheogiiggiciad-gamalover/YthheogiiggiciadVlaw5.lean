/-
  The statement's walk (layer 5): GamalOver.
-/
import Derived.Test.YthheogiiggiciadVcrs
namespace Go.Proofs.Ythheogiiggiciad
open Go.RowKit

set_option linter.unusedSimpArgs false in
set_option maxRecDepth 100000 in
set_option maxHeartbeats 8000000 in
theorem law_over (P Q G H m x r : Int) (a : Option Addr) (n cap : Nat) (N A : Nat → Int) (FA : Nat → Option Addr) (L C : Nat → Nat) (F : Nat → Nat → Int) (b1 : Option Addr) (l1 c1 : Nat) (X : Nat → Int) (b2 : Option Addr) (l2 c2 : Nat) (D : Nat → Int) (w : World) (h4 : Four P Q G H) (_hcap : n ≤ cap) (hin : RowsIn w a n N A FA L C F) (hm : U64 m) (hx : U64 x) (hr : U64 r) (_hc1 : l1 ≤ c1) (hX : FacsIn w b1 l1 X) (_hc2 : l2 ≤ c2) (hD : FacsIn w b2 l2 D) :
    Calls Try.prog 7 #[gv P Q G H a n cap, .agg #[.int .u64 m, .int .u64 x, .int .u64 r], .agg #[.slice b1 l1 c1, .slice b2 l2 c2]] w fun e w' => e = .returned (.bool true) ∧ Old w w' := by
  have HA : Hid (∀ wx, Lain w [(gc P Q G H a n cap, 25), (#[.int .u64 m, .int .u64 x, .int .u64 r], 51), (#[.slice b1 l1 c1, .slice b2 l2 c2], 49)] wx → Calls Try.prog 14 #[] wx fun e w' => e = .returned (.bool true) ∧ Lain w [(gc P Q G H a n cap, 25), (#[.int .u64 m, .int .u64 x, .int .u64 r], 51), (#[.slice b1 l1 c1, .slice b2 l2 c2], 49)] w') := fun wx hb => (awake5_any wx).mono fun e w' ⟨h, k⟩ => ⟨h, hb.then k⟩
  have HU : Hid (∀ wx, Lain w [(gc P Q G H a n cap, 25), (#[.int .u64 m, .int .u64 x, .int .u64 r], 51), (#[.slice b1 l1 c1, .slice b2 l2 c2], 49)] wx → Calls Try.prog 15 #[gv P Q G H a n cap] wx fun e w' => e = .returned (.bool (fewB L n && rightI P Q G H N A F L n)) ∧ Lain w [(gc P Q G H a n cap, 25), (#[.int .u64 m, .int .u64 x, .int .u64 r], 51), (#[.slice b1 l1 c1, .slice b2 l2 c2], 49)] w') := fun wx hb => (group5_any P Q G H a n cap N A FA L C F wx h4 (hin.old hb.old)).mono fun e w' ⟨h, k⟩ => ⟨h, hb.then k⟩
  have HL : Hid (∀ wx t, Lain w [(gc P Q G H a n cap, 25), (#[.int .u64 m, .int .u64 x, .int .u64 r], 51), (#[.slice b1 l1 c1, .slice b2 l2 c2], 49)] wx → Calls Try.prog 16 #[gv P Q G H a n cap, .slice (some ⟨wx.heap.size, 0, none⟩) 1 1] (wx.alloc (.cells #[.int .u64 m] t)) fun e w' => e = .returned (.bool (allB P Q (fun _ => m) 1)) ∧ Lain w [(gc P Q G H a n cap, 25), (#[.int .u64 m, .int .u64 x, .int .u64 r], 51), (#[.slice b1 l1 c1, .slice b2 l2 c2], 49)] w') :=
    fun wx t hb => (all5_any P Q G H a n cap _ 1 1 _ _ h4 (by decide) (facs_one wx m t hm)).mono fun e w' ⟨h, k⟩ => ⟨h, hb.then (((Old.refl _).alloc _).trans k)⟩
  have HF : Hid (∀ w', Lain w [(gc P Q G H a n cap, 25), (#[.int .u64 m, .int .u64 x, .int .u64 r], 51), (#[.slice b1 l1 c1, .slice b2 l2 c2], 49)] w' → w'.cell? ⟨w.heap.size, 0, none⟩ = some (.int .u64 P) ∧ w'.cell? ⟨w.heap.size, 1, none⟩ = some (.int .u64 Q) ∧ w'.cell? ⟨w.heap.size, 2, none⟩ = some (.int .u64 G) ∧ w'.cell? ⟨w.heap.size, 3, none⟩ = some (.int .u64 H) ∧ w'.cell? ⟨w.heap.size, 4, none⟩ = some (.slice a n cap) ∧ w'.cell? ⟨w.heap.size + 1, 0, none⟩ = some (.int .u64 m) ∧ w'.cell? ⟨w.heap.size + 1, 1, none⟩ = some (.int .u64 x) ∧ w'.cell? ⟨w.heap.size + 1, 2, none⟩ = some (.int .u64 r) ∧ w'.cell? ⟨w.heap.size + 2, 0, none⟩ = some (.slice b1 l1 c1) ∧ w'.cell? ⟨w.heap.size + 2, 1, none⟩ = some (.slice b2 l2 c2)) := fun _ h => ⟨h.cell 0 0 (by simp) rfl, h.cell 0 1 (by simp) rfl, h.cell 0 2 (by simp) rfl, h.cell 0 3 (by simp) rfl, h.cell 0 4 (by simp) rfl, h.cell 1 0 (by simp) rfl, h.cell 1 1 (by simp) rfl, h.cell 1 2 (by simp) rfl, h.cell 2 0 (by simp) rfl, h.cell 2 1 (by simp) rfl⟩
  have HD : Hid (∀ wx, Lain w [(gc P Q G H a n cap, 25), (#[.int .u64 m, .int .u64 x, .int .u64 r], 51), (#[.slice b1 l1 c1, .slice b2 l2 c2], 49)] wx → Lain w [(gc P Q G H a n cap, 25), (#[.int .u64 m, .int .u64 x, .int .u64 r], 51), (#[.slice b1 l1 c1, .slice b2 l2 c2], 49)] wx.drew) := fun _ h => h.then (Old.refl _).drew
  have HE : Hid (∀ wx k, Lain w [(gc P Q G H a n cap, 25), (#[.int .u64 m, .int .u64 x, .int .u64 r], 51), (#[.slice b1 l1 c1, .slice b2 l2 c2], 49)] wx → Lain w [(gc P Q G H a n cap, 25), (#[.int .u64 m, .int .u64 x, .int .u64 r], 51), (#[.slice b1 l1 c1, .slice b2 l2 c2], 49)] (wx.drewN k)) := fun _ k h => h.then ((Old.refl _).drewN k)
  have HO : Hid (∀ wx, Lain w [(gc P Q G H a n cap, 25), (#[.int .u64 m, .int .u64 x, .int .u64 r], 51), (#[.slice b1 l1 c1, .slice b2 l2 c2], 49)] wx → Old w wx) := fun _ h => h.old
  have ha := hin.a0
  clear hin
  have HZ := lain3 w (gc P Q G H a n cap) #[.int .u64 m, .int .u64 x, .int .u64 r] #[.slice b1 l1 c1, .slice b2 l2 c2] 25 51 49
  have HX : Hid (FacsIn w b1 l1 X) := hX
  have HDD : Hid (FacsIn w b2 l2 D) := hD
  clear hX hD
  go_enter Try.func7, Try.ntmps7
  go_upto_region 1 with fail
  generalize hW : ((w.alloc (.cells (gc P Q G H a n cap) 25)).alloc (.cells #[.int .u64 m, .int .u64 x, .int .u64 r] 51)).alloc (.cells #[.slice b1 l1 c1, .slice b2 l2 c2] 49) = W at *
  clear hW
  have hb := HZ
  obtain ⟨d0, d1, d2, d3, d4, e0, e1, e2, t0, t1⟩ := HF.out _ hb
  go_upto_region 3 with (go_at_call 14; refine (HA.out _ (by first | assumption | exact HD.out _ (by assumption) | exact HE.out _ _ (by assumption))).mono ?_; rintro e w1 ⟨rfl, hb⟩; obtain ⟨d0, d1, d2, d3, d4, e0, e1, e2, t0, t1⟩ := HF.out _ hb)
  go_quiet (fail)
  go_upto_region 4 with fail
  go_quiet (fail)
  cases hg : (fewB L n && rightI P Q G H N A F L n)
  · rw [hg] at HU
    clear hg ha h4
    go_wp2_with (first
      | (go_at_call 15; refine (HU.out _ (by first | assumption | exact HD.out _ (by assumption) | exact HE.out _ _ (by assumption))).mono ?_; rintro e w2 ⟨rfl, hb⟩; obtain ⟨d0, d1, d2, d3, d4, e0, e1, e2, t0, t1⟩ := HF.out _ hb)
      | (go_at_call 16; refine (HL.out _ _ (by first | assumption | exact HD.out _ (by assumption) | exact HE.out _ _ (by assumption))).mono ?_; rintro e w3 ⟨rfl, hb⟩; obtain ⟨d0, d1, d2, d3, d4, e0, e1, e2, t0, t1⟩ := HF.out _ hb))
    go_ret
    exact ⟨rfl, HO.out _ hb⟩
  have hg' := Bool.and_eq_true_iff.1 hg
  have hR := right_righ ha hg'.2
  rw [hg] at HU
  clear hg hg' ha
  cases hall : allB P Q (fun _ => m) 1
  · rw [hall] at HL
    clear hall h4 hR
    go_wp2_with (first
      | (go_at_call 15; refine (HU.out _ (by first | assumption | exact HD.out _ (by assumption) | exact HE.out _ _ (by assumption))).mono ?_; rintro e w2 ⟨rfl, hb⟩; obtain ⟨d0, d1, d2, d3, d4, e0, e1, e2, t0, t1⟩ := HF.out _ hb)
      | (go_at_call 16; refine (HL.out _ _ (by first | assumption | exact HD.out _ (by assumption) | exact HE.out _ _ (by assumption))).mono ?_; rintro e w3 ⟨rfl, hb⟩; obtain ⟨d0, d1, d2, d3, d4, e0, e1, e2, t0, t1⟩ := HF.out _ hb))
    go_ret
    exact ⟨rfl, HO.out _ hb⟩
  rw [hall] at HL
  have im : inI P Q m = true := allB_iff.1 hall 0 (by omega)
  clear hall
  by_cases g1 : 8 < l1
  · clear h4 hR im
    go_wp2_with (first
      | (go_at_call 15; refine (HU.out _ (by first | assumption | exact HD.out _ (by assumption) | exact HE.out _ _ (by assumption))).mono ?_; rintro e w2 ⟨rfl, hb⟩; obtain ⟨d0, d1, d2, d3, d4, e0, e1, e2, t0, t1⟩ := HF.out _ hb)
      | (go_at_call 16; refine (HL.out _ _ (by first | assumption | exact HD.out _ (by assumption) | exact HE.out _ _ (by assumption))).mono ?_; rintro e w3 ⟨rfl, hb⟩; obtain ⟨d0, d1, d2, d3, d4, e0, e1, e2, t0, t1⟩ := HF.out _ hb))
    go_ret
    exact ⟨rfl, HO.out _ hb⟩
  have k1 : ¬ (8 : Int) < (l1 : Int) := by omega
  go_upto_region 7 with (first
    | (go_at_call 15; refine (HU.out _ (by first | assumption | exact HD.out _ (by assumption) | exact HE.out _ _ (by assumption))).mono ?_; rintro e w2 ⟨rfl, hb⟩; obtain ⟨d0, d1, d2, d3, d4, e0, e1, e2, t0, t1⟩ := HF.out _ hb)
    | (go_at_call 16; refine (HL.out _ _ (by first | assumption | exact HD.out _ (by assumption) | exact HE.out _ _ (by assumption))).mono ?_; rintro e w3 ⟨rfl, hb⟩; obtain ⟨d0, d1, d2, d3, d4, e0, e1, e2, t0, t1⟩ := HF.out _ hb))
  clear d0 d1 d2 d3 d4 e0 e1 e2 t0 t1
  clear HA HU HL k1
  have HB : Hid (Lain w [(gc P Q G H a n cap, 25), (#[.int .u64 m, .int .u64 x, .int .u64 r], 51), (#[.slice b1 l1 c1, .slice b2 l2 c2], 49)] w3) := hb
  clear hb
  have HXx : Hid (∀ i, i < l1 → U64 (X i)) := HX.out.u64
  have HDx : Hid (∀ i, i < l2 → U64 (D i)) := HDD.out.u64
  obtain ⟨K, hK⟩ : ∃ K : Nat → Int, K = fun i => expI P Q G (X i) := ⟨_, rfl⟩
  have HK : Hid (∀ i wx, i < l1 → Calls Try.prog 17 #[gv P Q G H a n cap, .int .u64 (X i)] wx fun e w' => e = .returned (.int .u64 (K i)) ∧ Old wx w') := fun i wx hi => (gkey_any P Q G H a n cap (X i) wx h4 hR (HXx.out i hi)).mono fun e w' ⟨h, k⟩ => ⟨by rw [h, hK], k⟩
  have HKu : Hid (∀ i, i < l1 → U64 (K i)) := fun i _ => by rw [hK]; exact u64_exp _ _ _ _
  obtain ⟨y, hy⟩ : ∃ y : Int, y = prodI P K l1 := ⟨_, rfl⟩
  have iy : inI P Q y = true := by rw [hy, hK]; exact hR.prod_in l1 fun i _ => hR.exp_in hR.gin
  have uy : U64 y := by rw [hy]; exact u64_prod _ _ _
  have HJ : Hid (∀ b c wx, l1 ≤ c → FacsIn wx b l1 K → Calls Try.prog 33 #[gv P Q G H a n cap, .slice b l1 c] wx fun e w' => e = .returned (.int .u64 y) ∧ Old wx w') := fun b c wx hc hf => (gjoin_any P Q G H a n cap b l1 c K wx h4 hR hc (by omega) hf).mono fun e w' ⟨h, k⟩ => ⟨by rw [h, hy], k⟩
  obtain ⟨u, hu0⟩ : ∃ z : Int, z = mulI 1 (expI P Q G r) P := ⟨_, rfl⟩
  obtain ⟨v0, hv0⟩ : ∃ z : Int, z = mulI m (expI P Q y r) P := ⟨_, rfl⟩
  have HS : Hid (∀ wx, Calls Try.prog 19 #[gv P Q G H a n cap, .int .u64 y, .int .u64 m, .int .u64 r] wx fun e w' => e = .returned (pv u v0) ∧ Old wx w') := fun wx => (gseal_any P Q G H a n cap y m r wx h4 hR uy hm hr).mono fun e w' ⟨h, k⟩ => ⟨by rw [h, hu0, hv0], k⟩
  have HEn : Hid (∀ wx, Calls Try.prog 29 #[pv u v0] wx fun e w' => e = .returned (tv u 1 v0) ∧ Old wx w') := fun wx => genter_any u v0 wx
  have hS0 : Sld P Q G m y u v0 := by rw [hu0, hv0]; exact hR.sld iy hr.1
  obtain ⟨z, hz⟩ : ∃ z : Int, z = expI P Q G x := ⟨_, rfl⟩
  have iz : inI P Q z = true := by rw [hz]; exact hR.exp_in hR.gin
  have uz : U64 z := by rw [hz]; exact u64_exp _ _ _ _
  have HKx : Hid (∀ wx, Calls Try.prog 17 #[gv P Q G H a n cap, .int .u64 x] wx fun e w' => e = .returned (.int .u64 z) ∧ Old wx w') := fun wx => (gkey_any P Q G H a n cap x wx h4 hR hx).mono fun e w' ⟨h, k⟩ => ⟨by rw [h, hz], k⟩
  have HC0 : Hid (Crs P Q G z u v0 X 0 1 v0) := hR.crs X hS0.v0
  have HG : Hid (∀ g v d i, i < l1 → U64 d → Crs P Q G z u v0 X i g v → ∃ g' v', Crs P Q G z u v0 X (i + 1) g' v' ∧ ∀ wx, Calls Try.prog 25 #[gv P Q G H a n cap, .int .u64 (X i), .int .u64 z, tv u g v, .int .u64 d] wx fun e w' => e = .returned (tv u g' v') ∧ Old wx w') := fun g v d i hi hd s =>
    ⟨_, _, s.cross hR hS0.ui iz (HXx.out i hi).1 hd.1, fun wx => gcross_any P Q G H a n cap (X i) z u g v d wx h4 hR (HXx.out i hi) uz hS0.ui s.g0 s.v1 hd⟩
  have HLv : Hid (∀ g v wx, Calls Try.prog 31 #[tv u g v] wx fun e w' => e = .returned (pv g v) ∧ Old wx w') := fun g v wx => gleave_any u g v wx
  have HSl : Hid (∀ g v, Crs P Q G z u v0 X l1 g v → Sld P Q G m z g v) := fun g v s => s.sealed hR (fun i hi => (HXx.out i hi).1) (by rw [hy, hK]) hS0
  have HFin : Hid (∀ g v, Sld P Q G m z g v → ∃ sh : Int, (∀ wx, Calls Try.prog 23 #[gv P Q G H a n cap, .int .u64 x, pv g v] wx fun e w' => e = .returned (.int .u64 sh) ∧ Old wx w') ∧ ∀ wx t, Calls Try.prog 27 #[gv P Q G H a n cap, pv g v, .slice (some ⟨wx.heap.size, 0, none⟩) 1 1] (wx.alloc (.cells #[.int .u64 sh] t)) fun e w' => e = .returned (.int .u64 m) ∧ Old wx w') := fun g v s =>
    ⟨expI P Q g x, fun wx => gshare_any P Q G H a n cap x g v wx h4 hR hx s.u0, fun wx t => (gopen_any P Q G H a n cap g v _ 1 1 _ _ h4 hR s.v0 (by decide) (by decide) (facs_one wx _ t (u64_exp _ _ _ _)) (fun i _ => hR.exp_in s.ui)).mono fun e w' ⟨h, k⟩ => ⟨by rw [h, s.opens1 hR im hx.1 hz], ((Old.refl _).alloc _).trans k⟩⟩
  clear hK hy hu0 hv0 iy uy im h4 hR hS0 iz uz hz
  obtain ⟨i0, hi, hz0, hz1, hz2⟩ := info_parts u64info
  go_wp2_with fail
  go_loopw [12, 49] (fun v iv wx => ∃ i : Nat, iv = .int .i64 (i : Int) ∧ i ≤ l1 ∧ Hid (Nums wx w3.heap.size v i K) ∧ Hid (Old w3 wx)) (fun _ iv _ => l1 - (intOf iv).toNat)
  case atStart => exact ⟨0, rfl, Nat.zero_le _, nums_nil _ _ _, Old.refl _⟩
  case round =>
    obtain ⟨i, rfl, hi1, HN, HW⟩ := hrel
    by_cases hlt : i < l1
    · rcases HX.out.old (HB.out.old.trans HW.out) with h0 | ⟨bb, off, rfl, hbb, hrr⟩
      · omega
      have cx := (hrr i hlt).1
      clear hrr hbb
      obtain ⟨d0, d1, d2, d3, d4, e0, e1, e2, t0, t1⟩ := HF.out _ (HB.out.then HW.out)
      have HK' : Hid (∀ wx, Calls Try.prog 17 #[gv P Q G H a n cap, .int .u64 (X i)] wx fun e w' => e = .returned (.int .u64 (K i)) ∧ Old wx w') := fun wx => HK.out i wx hlt
      go_upto_region 11 with fail
      go_wp2_with (first
        | (go_at_call 17; refine (HK'.out _).mono ?_; rintro e w4 ⟨rfl, ho4⟩; have hown := HN.out.old ho4; have HW4 : Hid (Old w3 w4) := HW.out.trans ho4; have hs4 := HW4.out.size; clear ho4)
        | (at_builtin; refine wpList_append_own _ rfl _ _ 42 rfl w3.heap.size 22 i0 (.int .u64 0) 1 8 Try.underlying42 hi hz0 hz1 hz2 rfl (by decide) _ _ _ rfl (World.ownsRow.alloc hown _) ⟨w4.heap.size, 0, none⟩ 1 1 [.int .u64 (K i)] rfl rfl ?c1 ?c2 ?c3 ?c4 ?c5 ?_))
      case c1 => exact cell_one_new _ _ _
      case c2 => intro u hu; simp at hu; subst hu; rfl
      case c3 => unfold maxLen; omega
      case c4 => omega
      case c5 => simp; omega
      intro v' w5 hown' hgrow _
      have HN5 : Hid (Nums w5 w3.heap.size v' (i + 1) K) := Nums.app hown' rfl
      have HW5 : Hid (Old w3 w5) := Nums.grown hown HW4.out hgrow
      clear hown' hgrow hown HN HW HW4 hs4 cx
      clear d0 d1 d2 d3 d4 e0 e1 e2 t0 t1
      go_wp2
      go_roundw
      case rel => exact ⟨i + 1, idx_next i, by omega, HN5, HW5⟩
      case measure => simp [intOf]; omega
    · have he : l1 = i := by omega
      subst he
      obtain ⟨bk, ck, rfl, hck, hfk⟩ := HN.out.facs HKu.out
      have HJ' : Hid (∀ wx, Old wr wx → Calls Try.prog 33 #[gv P Q G H a n cap, .slice bk l1 ck] wx fun e w' => e = .returned (.int .u64 y) ∧ Old wx w') := fun wx ho => HJ.out _ _ _ hck (hfk.old ho)
      have HBr : Hid (Lain w [(gc P Q G H a n cap, 25), (#[.int .u64 m, .int .u64 x, .int .u64 r], 51), (#[.slice b1 l1 c1, .slice b2 l2 c2], 49)] wr) := HB.out.then HW.out
      have HTT : Hid (∀ w', Old wr w' → w'.cell? ⟨w.heap.size, 0, none⟩ = some (.int .u64 P) ∧ w'.cell? ⟨w.heap.size, 1, none⟩ = some (.int .u64 Q) ∧ w'.cell? ⟨w.heap.size, 2, none⟩ = some (.int .u64 G) ∧ w'.cell? ⟨w.heap.size, 3, none⟩ = some (.int .u64 H) ∧ w'.cell? ⟨w.heap.size, 4, none⟩ = some (.slice a n cap)) := fun w' ho => by
        obtain ⟨d0, d1, d2, d3, d4, e0, e1, e2, t0, t1⟩ := HF.out _ (HBr.out.then ho)
        exact ⟨d0, d1, d2, d3, d4⟩
      have hwr : w.heap.size + 3 ≤ wr.heap.size := HBr.out.size
      clear hfk HN HJ HK HB HW
      obtain ⟨d0, d1, d2, d3, d4⟩ := HTT.out _ (Old.refl _)
      go_upto_region 13 with fail
      go_cut [15] (fun pv wx => ∃ b, pv = .pointer (some ⟨b, 0, none⟩) ∧ Hid (Td w [(gc P Q G H a n cap, 25), (#[.int .u64 m, .int .u64 x, .int .u64 r], 51), (#[.slice b1 l1 c1, .slice b2 l2 c2], 49)] b u 1 v0 wx))
      case first =>
        go_region_held3 (fun w' => w'.cell? ⟨w.heap.size, 0, none⟩ = some (.int .u64 P) ∧ w'.cell? ⟨w.heap.size, 1, none⟩ = some (.int .u64 Q) ∧ w'.cell? ⟨w.heap.size, 2, none⟩ = some (.int .u64 G) ∧ w'.cell? ⟨w.heap.size, 3, none⟩ = some (.int .u64 H) ∧ w'.cell? ⟨w.heap.size, 4, none⟩ = some (.slice a n cap)) (first | exact HTT.out _ (by assumption) | (go_keep; done) | (and_intros <;> (refine cell_far ?_ (cell_far ?_ (cell_far ?_ ?_)) <;> first | assumption | omega))) (first
          | (go_at_call 33; refine (HJ'.out _ (by first | exact (Old.refl _).drew | exact (Old.refl _).drew.alloc _)).mono ?_; rintro e w5 ⟨rfl, o5⟩; have h5 : Old wr w5 := Old.trans (by first | exact (Old.refl _).drew | exact (Old.refl _).drew.alloc _) o5)
          | (go_at_call 19; refine (HS.out _).mono ?_; rintro e w6 ⟨rfl, o6⟩; have h6 : Old wr w6 := Old.trans (by first | exact h5 | exact h5.alloc _) o6)
          | (go_at_call 29; refine (HEn.out _).mono ?_; rintro e w7 ⟨rfl, o7⟩; have h7 : Old wr w7 := Old.trans (by first | exact h6 | exact h6.alloc _) o7; have hl7 : Lain w [(gc P Q G H a n cap, 25), (#[.int .u64 m, .int .u64 x, .int .u64 r], 51), (#[.slice b1 l1 c1, .slice b2 l2 c2], 49)] w7 := HBr.out.then h7; obtain ⟨s0, s1, s2, s3, s4⟩ := HTT.out _ h7; (try (have hlt6 : w.heap.size + 3 ≤ w6.heap.size := Nat.le_trans hwr h6.size; have htd : Td w [(gc P Q G H a n cap, 25), (#[.int .u64 m, .int .u64 x, .int .u64 r], 51), (#[.slice b1 l1 c1, .slice b2 l2 c2], 49)] w6.heap.size 0 0 0 w7 := Td.early (x := w6) (HBr.out.then h6) o7; have hrow := htd.row; have q0 : _ = some (Value.int .u64 0) := cell_of_row _ _ 0 _ _ (0, 0) hrow; have q1 : _ = some (Value.int .u64 0) := cell_of_row _ _ 1 _ _ (0, 0) hrow; have q2 : _ = some (Value.int .u64 0) := cell_of_row _ _ 2 _ _ (0, 0) hrow; have f0 := row_frozen hrow 0; have f1 := row_frozen hrow 1; have f2 := row_frozen hrow 2; clear hrow)); (try (have hlt5 : w.heap.size + 3 ≤ w5.heap.size := Nat.le_trans hwr h5.size; have htd : Td w [(gc P Q G H a n cap, 25), (#[.int .u64 m, .int .u64 x, .int .u64 r], 51), (#[.slice b1 l1 c1, .slice b2 l2 c2], 49)] w5.heap.size 0 0 0 w7 := Td.early (x := w5) (HBr.out.then h5) (o6.trans o7); have hrow := htd.row; have q0 : _ = some (Value.int .u64 0) := cell_of_row _ _ 0 _ _ (0, 0) hrow; have q1 : _ = some (Value.int .u64 0) := cell_of_row _ _ 1 _ _ (0, 0) hrow; have q2 : _ = some (Value.int .u64 0) := cell_of_row _ _ 2 _ _ (0, 0) hrow; have f0 := row_frozen hrow 0; have f1 := row_frozen hrow 1; have f2 := row_frozen hrow 2; clear hrow)); (try (have htd : Td w [(gc P Q G H a n cap, 25), (#[.int .u64 m, .int .u64 x, .int .u64 r], 51), (#[.slice b1 l1 c1, .slice b2 l2 c2], 49)] wr.heap.size 0 0 0 w7 := Td.early (x := wr.drew) (HBr.out.then (Old.refl _).drew) ((o5.trans o6).trans o7); have hrow := htd.row; have q0 : _ = some (Value.int .u64 0) := cell_of_row _ _ 0 _ _ (0, 0) hrow; have q1 : _ = some (Value.int .u64 0) := cell_of_row _ _ 1 _ _ (0, 0) hrow; have q2 : _ = some (Value.int .u64 0) := cell_of_row _ _ 2 _ _ (0, 0) hrow; have f0 := row_frozen hrow 0; have f1 := row_frozen hrow 1; have f2 := row_frozen hrow 2; clear hrow))))
        all_goals
          go_wp2_with fail
          go_meet
          case rel => first
            | exact ⟨_, rfl, Td.last hl7 _ _ _⟩
            | exact ⟨_, rfl, Td.set htd _ _ _⟩
      obtain ⟨b, rfl, HPD⟩ := hcut
      clear d0 d1 d2 d3 d4
      clear HTT hwr HBr HS HEn HJ'
      go_wp2_with fail
      go_loopw [70] (fun iv wx => ∃ i : Nat, ∃ g v : Int, iv = .int .i64 (i : Int) ∧ i ≤ l1 ∧ Hid (Td w [(gc P Q G H a n cap, 25), (#[.int .u64 m, .int .u64 x, .int .u64 r], 51), (#[.slice b1 l1 c1, .slice b2 l2 c2], 49)] b u g v wx) ∧ Hid (Crs P Q G z u v0 X i g v)) (fun iv _ => l1 - (intOf iv).toNat)
      case atStart => exact ⟨0, 1, v0, rfl, Nat.zero_le _, HPD, HC0⟩
      case round =>
        obtain ⟨i, g, v, rfl, hi2, HPr, HSr⟩ := hrel
        by_cases hlt : i < l1
        · rcases HX.out.old HPr.out.lain.old with h0 | ⟨bb, off, hq, hbb, hrr⟩
          · omega
          have cx := (hrr i hlt).1
          clear hrr hbb
          subst hq
          have HTT : Hid (∀ w', Old wr w' → w'.cell? ⟨w.heap.size, 0, none⟩ = some (.int .u64 P) ∧ w'.cell? ⟨w.heap.size, 1, none⟩ = some (.int .u64 Q) ∧ w'.cell? ⟨w.heap.size, 2, none⟩ = some (.int .u64 G) ∧ w'.cell? ⟨w.heap.size, 3, none⟩ = some (.int .u64 H) ∧ w'.cell? ⟨w.heap.size, 4, none⟩ = some (.slice a n cap) ∧ w'.cell? ⟨b, 0, none⟩ = some (.int .u64 u) ∧ w'.cell? ⟨b, 1, none⟩ = some (.int .u64 g) ∧ w'.cell? ⟨b, 2, none⟩ = some (.int .u64 v)) := fun w' ho => by
            obtain ⟨d0, d1, d2, d3, d4, e0, e1, e2, t0, t1⟩ := HF.out _ (HPr.out.lain.then ho)
            exact ⟨d0, d1, d2, d3, d4, (HPr.out.then ho).c0, (HPr.out.then ho).c1, (HPr.out.then ho).c2⟩
          obtain ⟨d0, d1, d2, d3, d4, cc0, cc1, cc2⟩ := HTT.out _ (Old.refl _)
          have hwi : IntKind.u64.wrap (i : Int) = (i : Int) := by rw [IntKind.wrap_u64]; omega
          go_upto_if 80 with fail
          go_cut [18] from 81 to 84 (fun dv wx => ∃ d : Int, dv = .int .u64 d ∧ Hid (U64 d) ∧ wr = wx)
          case first =>
            by_cases hd : i < l2
            · rcases HDD.out.old HPr.out.lain.old with h0 | ⟨bd, offd, hqd, hbd, hrd⟩
              · omega
              have cd := (hrd i hd).1
              clear hrd hbd
              subst hqd
              go_wp2_with fail
              go_meet
              case rel => exact ⟨_, rfl, HDx.out i hd, rfl⟩
            · go_wp2_with fail
              go_meet
              case rel => exact ⟨_, rfl, ⟨by omega, by omega⟩, rfl⟩
          obtain ⟨d, rfl, HU8, rfl⟩ := hcut
          obtain ⟨g', v', s', HA'⟩ := HG.out g v d i hlt HU8.out HSr.out
          have HA2 : Hid (∀ wx, Calls Try.prog 25 #[gv P Q G H a n cap, .int .u64 (X i), .int .u64 z, tv u g v, .int .u64 d] wx fun e w' => e = .returned (tv u g' v') ∧ Old wx w') := HA'
          have HS2 : Hid (Crs P Q G z u v0 X (i + 1) g' v') := s'
          clear s' HA'
          go_upto_region 20 with fail
          go_region_with (first
            | (go_at_call 17; refine (HKx.out _).mono ?_; rintro e w5 ⟨rfl, o5⟩; have h5 : Old wr w5 := Old.trans (by first | exact (Old.refl _).drew | exact (Old.refl _).drewN _ | exact Old.refl _) o5; obtain ⟨s0, s1, s2, s3, s4, s5, s6, s7⟩ := HTT.out _ h5)
            | (go_at_call 25; refine (HA2.out _).mono ?_; rintro e w6 ⟨rfl, o6⟩; have hp6 := HPr.out.then (h5.trans o6); have hrow := hp6.row; have q0 : _ = some (Value.int .u64 u) := cell_of_row _ _ 0 _ _ (0, 0) hrow; have q1 : _ = some (Value.int .u64 g) := cell_of_row _ _ 1 _ _ (0, 0) hrow; have q2 : _ = some (Value.int .u64 v) := cell_of_row _ _ 2 _ _ (0, 0) hrow; have f0 := row_frozen hrow 0; have f1 := row_frozen hrow 1; have f2 := row_frozen hrow 2; clear hrow))
          all_goals
            go_wp2_with fail
            go_roundw
            case rel => exact ⟨i + 1, g', v', idx_next i, by omega, hp6.set u g' v', HS2⟩
            case measure => simp [intOf]; omega
        · have he : l1 = i := by omega
          subst he
          have hS := HSl.out _ _ HSr.out
          obtain ⟨sh, h1, h2⟩ := HFin.out _ _ hS
          have HH : Hid (∀ wx, Calls Try.prog 23 #[gv P Q G H a n cap, .int .u64 x, pv g v] wx fun e w' => e = .returned (.int .u64 sh) ∧ Old wx w') := h1
          have HP : Hid (∀ wx t, Calls Try.prog 27 #[gv P Q G H a n cap, pv g v, .slice (some ⟨wx.heap.size, 0, none⟩) 1 1] (wx.alloc (.cells #[.int .u64 sh] t)) fun e w' => e = .returned (.int .u64 m) ∧ Old wx w') := h2
          have HL' : Hid (∀ wx, Calls Try.prog 31 #[tv u g v] wx fun e w' => e = .returned (pv g v) ∧ Old wx w') := HLv.out g v
          have HTl : Hid (Td w [(gc P Q G H a n cap, 25), (#[.int .u64 m, .int .u64 x, .int .u64 r], 51), (#[.slice b1 l1 c1, .slice b2 l2 c2], 49)] b u g v wr) := HPr
          clear hS h1 h2 HSl HFin HSr HG HC0 HKx HLv HPD HPr
          obtain ⟨d0, d1, d2, d3, d4, e0, e1, e2, t0, t1⟩ := HF.out _ HTl.out.lain
          have cc0 := HTl.out.c0
          have cc1 := HTl.out.c1
          have cc2 := HTl.out.c2
          go_upto_region 23 with (go_at_call 31; refine (HL'.out _).mono ?_; rintro e w5 ⟨rfl, ho5⟩; have HP5 : Hid (Lain w [(gc P Q G H a n cap, 25), (#[.int .u64 m, .int .u64 x, .int .u64 r], 51), (#[.slice b1 l1 c1, .slice b2 l2 c2], 49)] w5) := HTl.out.lain.then ho5)
          have HPD : Hid (Pd w [(gc P Q G H a n cap, 25), (#[.int .u64 m, .int .u64 x, .int .u64 r], 51), (#[.slice b1 l1 c1, .slice b2 l2 c2], 49)] w5.heap.size g v (w5.alloc (.cells #[.int .u64 g, .int .u64 v] 32))) := Pd.last HP5.out g v
          clear d0 d1 d2 d3 d4 e0 e1 e2 t0 t1
          clear cc0 cc1 cc2 ho5 HL' HTl
          generalize w5.alloc (.cells #[.int .u64 g, .int .u64 v] 32) = wc at *
          generalize w5.heap.size = bc at *
          have HT : Hid (∀ w', Old wc w' → w'.cell? ⟨w.heap.size, 0, none⟩ = some (.int .u64 P) ∧ w'.cell? ⟨w.heap.size, 1, none⟩ = some (.int .u64 Q) ∧ w'.cell? ⟨w.heap.size, 2, none⟩ = some (.int .u64 G) ∧ w'.cell? ⟨w.heap.size, 3, none⟩ = some (.int .u64 H) ∧ w'.cell? ⟨w.heap.size, 4, none⟩ = some (.slice a n cap) ∧ w'.cell? ⟨bc, 0, none⟩ = some (.int .u64 g) ∧ w'.cell? ⟨bc, 1, none⟩ = some (.int .u64 v)) := fun w' ho => by
            obtain ⟨d0, d1, d2, d3, d4, e0, e1, e2, t0, t1⟩ := HF.out _ (HPD.out.lain.then ho)
            exact ⟨d0, d1, d2, d3, d4, (HPD.out.then ho).c0, (HPD.out.then ho).c1⟩
          obtain ⟨d0, d1, d2, d3, d4, cc0, cc1⟩ := HT.out _ (Old.refl _)
          go_region_held3 (fun w' => w'.cell? ⟨w.heap.size, 0, none⟩ = some (.int .u64 P) ∧ w'.cell? ⟨w.heap.size, 1, none⟩ = some (.int .u64 Q) ∧ w'.cell? ⟨w.heap.size, 2, none⟩ = some (.int .u64 G) ∧ w'.cell? ⟨w.heap.size, 3, none⟩ = some (.int .u64 H) ∧ w'.cell? ⟨w.heap.size, 4, none⟩ = some (.slice a n cap) ∧ w'.cell? ⟨bc, 0, none⟩ = some (.int .u64 g) ∧ w'.cell? ⟨bc, 1, none⟩ = some (.int .u64 v)) (first | exact HT.out _ (by assumption) | (go_keep; done)) (first
            | (go_at_call 23; refine (HH.out _).mono ?_; rintro e w6 ⟨rfl, o6⟩; have hq : Old wc w6 := (Old.refl _).drew.trans o6)
            | (go_at_call 27; refine (HP.out _ _).mono ?_; rintro e w7 ⟨rfl, o7⟩; have hq7 : Old wc w7 := hq.trans o7))
          go_wp2_with fail
          go_ret
          exact ⟨rfl, HPD.out.lain.old.trans hq7⟩

end Go.Proofs.Ythheogiiggiciad
