/-
  The statement's walk (layer 5): GamalCrosses.
-/
import Derived.Test.YthheogiiggiciadVlaw2
import Derived.Laws.Closers25b
namespace Go.Proofs.Ythheogiiggiciad
open Go.RowKit

set_option linter.unusedSimpArgs false in
set_option maxHeartbeats 8000000 in
theorem law_crosses (P Q G H u m v : Int) (a : Option Addr) (n cap : Nat) (N A : Nat → Int) (FA : Nat → Option Addr) (L C : Nat → Nat) (F : Nat → Nat → Int) (b : Option Addr) (len c : Nat) (S : Nat → Int) (w : World) (h4 : Four P Q G H) (_hcap : n ≤ cap) (hin : RowsIn w a n N A FA L C F) (hu : U64 u) (hm : U64 m) (hv : U64 v) (hc : len ≤ c) (hl : len ≤ 9223372036854775807) (hsh : FacsIn w b len S) :
    Calls Try.prog 5 #[gv P Q G H a n cap, tv u m v, .slice b len c] w fun e w' => e = .returned (.bool true) ∧ Old w w' := by
  have HA : Hid (∀ wx, Lain w [(gc P Q G H a n cap, 25), (tc u m v, 41)] wx → Calls Try.prog 14 #[] wx fun e w' => e = .returned (.bool true) ∧ Lain w [(gc P Q G H a n cap, 25), (tc u m v, 41)] w') := fun wx hb => (awake5_any wx).mono fun e w' ⟨h, k⟩ => ⟨h, hb.then k⟩
  have HU : Hid (∀ wx, Lain w [(gc P Q G H a n cap, 25), (tc u m v, 41)] wx → Calls Try.prog 15 #[gv P Q G H a n cap] wx fun e w' => e = .returned (.bool (fewB L n && rightI P Q G H N A F L n)) ∧ Lain w [(gc P Q G H a n cap, 25), (tc u m v, 41)] w') := fun wx hb => (group5_any P Q G H a n cap N A FA L C F wx h4 (hin.old hb.old)).mono fun e w' ⟨h, k⟩ => ⟨h, hb.then k⟩
  have HF : Hid (∀ w', Lain w [(gc P Q G H a n cap, 25), (tc u m v, 41)] w' → w'.cell? ⟨w.heap.size, 0, none⟩ = some (.int .u64 P) ∧ w'.cell? ⟨w.heap.size, 1, none⟩ = some (.int .u64 Q) ∧ w'.cell? ⟨w.heap.size, 2, none⟩ = some (.int .u64 G) ∧ w'.cell? ⟨w.heap.size, 3, none⟩ = some (.int .u64 H) ∧ w'.cell? ⟨w.heap.size, 4, none⟩ = some (.slice a n cap) ∧ w'.cell? ⟨w.heap.size + 1, 0, none⟩ = some (.int .u64 u) ∧ w'.cell? ⟨w.heap.size + 1, 1, none⟩ = some (.int .u64 m) ∧ w'.cell? ⟨w.heap.size + 1, 2, none⟩ = some (.int .u64 v)) := fun _ h => ⟨h.cell 0 0 (by simp) rfl, h.cell 0 1 (by simp) rfl, h.cell 0 2 (by simp) rfl, h.cell 0 3 (by simp) rfl, h.cell 0 4 (by simp) rfl, h.cell 1 0 (by simp) rfl, h.cell 1 1 (by simp) rfl, h.cell 1 2 (by simp) rfl⟩
  have HD : Hid (∀ wx, Lain w [(gc P Q G H a n cap, 25), (tc u m v, 41)] wx → Lain w [(gc P Q G H a n cap, 25), (tc u m v, 41)] wx.drew) := fun _ h => h.then (Old.refl _).drew
  have HE : Hid (∀ wx k, Lain w [(gc P Q G H a n cap, 25), (tc u m v, 41)] wx → Lain w [(gc P Q G H a n cap, 25), (tc u m v, 41)] (wx.drewN k)) := fun _ k h => h.then ((Old.refl _).drewN k)
  have HO : Hid (∀ wx, Lain w [(gc P Q G H a n cap, 25), (tc u m v, 41)] wx → Old w wx) := fun _ h => h.old
  have ha := hin.a0
  clear hin
  have HZ := lain2 w (gc P Q G H a n cap) (tc u m v) 25 41
  have HSH : Hid (FacsIn w b len S) := hsh
  clear hsh
  cases hg : (fewB L n && rightI P Q G H N A F L n)
  · rw [hg] at HU
    clear hg ha h4
    go_enter Try.func5, Try.ntmps5
    go_upto_region 1 with fail
    generalize hW : (w.alloc (.cells (gc P Q G H a n cap) 25)).alloc (.cells (tc u m v) 41) = W at *
    clear hW
    have hb := HZ
    obtain ⟨d0_0, d0_1, d0_2, d0_3, d0_4, d1_0, d1_1, d1_2⟩ := HF.out _ hb
    go_upto_region 3 with (go_at_call 14; refine (HA.out _ (by first | assumption | exact HD.out _ (by assumption) | exact HE.out _ _ (by assumption))).mono ?_; rintro e w1 ⟨rfl, hb⟩; obtain ⟨d0_0, d0_1, d0_2, d0_3, d0_4, d1_0, d1_1, d1_2⟩ := HF.out _ hb)
    go_wp2_with (go_at_call 15; refine (HU.out _ (by first | assumption | exact HD.out _ (by assumption) | exact HE.out _ _ (by assumption))).mono ?_; rintro e w2 ⟨rfl, hb⟩; obtain ⟨d0_0, d0_1, d0_2, d0_3, d0_4, d1_0, d1_1, d1_2⟩ := HF.out _ hb)
    go_ret
    exact ⟨rfl, HO.out _ hb⟩
  · have hg' := Bool.and_eq_true_iff.1 hg
    have hR := right_righ ha hg'.2
    rw [hg] at HU
    clear hg hg' ha
    have HL : Hid (∀ wx t, Lain w [(gc P Q G H a n cap, 25), (tc u m v, 41)] wx → Calls Try.prog 16 #[gv P Q G H a n cap, .slice (some ⟨wx.heap.size, 0, none⟩) 3 3] (wx.alloc (.cells #[.int .u64 u, .int .u64 m, .int .u64 v] t)) fun e w' => e = .returned (.bool (allB P Q (three5 u m v) 3)) ∧ Lain w [(gc P Q G H a n cap, 25), (tc u m v, 41)] w') :=
      fun wx t hb => (all5_any P Q G H a n cap _ 3 3 _ _ h4 (by decide) (facs_three wx u m v t hu hm hv)).mono fun e w' ⟨h, k⟩ => ⟨h, hb.then (((Old.refl _).alloc _).trans k)⟩
    have HL2 : Hid (∀ wx, Lain w [(gc P Q G H a n cap, 25), (tc u m v, 41)] wx → Calls Try.prog 16 #[gv P Q G H a n cap, .slice b len c] wx fun e w' => e = .returned (.bool (allB P Q S len)) ∧ Lain w [(gc P Q G H a n cap, 25), (tc u m v, 41)] w') :=
      fun wx hb => (all5_any P Q G H a n cap b len c S _ h4 hl (HSH.out.old hb.old)).mono fun e w' ⟨h, k⟩ => ⟨h, hb.then k⟩
    cases hall : allB P Q (three5 u m v) 3
    · rw [hall] at HL
      clear hall h4 hR
      go_enter Try.func5, Try.ntmps5
      go_upto_region 1 with fail
      generalize hW : (w.alloc (.cells (gc P Q G H a n cap) 25)).alloc (.cells (tc u m v) 41) = W at *
      clear hW
      have hb := HZ
      obtain ⟨d0_0, d0_1, d0_2, d0_3, d0_4, d1_0, d1_1, d1_2⟩ := HF.out _ hb
      go_upto_region 3 with (go_at_call 14; refine (HA.out _ (by first | assumption | exact HD.out _ (by assumption) | exact HE.out _ _ (by assumption))).mono ?_; rintro e w1 ⟨rfl, hb⟩; obtain ⟨d0_0, d0_1, d0_2, d0_3, d0_4, d1_0, d1_1, d1_2⟩ := HF.out _ hb)
      go_wp2_with (first
        | (go_at_call 15; refine (HU.out _ (by first | assumption | exact HD.out _ (by assumption) | exact HE.out _ _ (by assumption))).mono ?_; rintro e w2 ⟨rfl, hb⟩; obtain ⟨d0_0, d0_1, d0_2, d0_3, d0_4, d1_0, d1_1, d1_2⟩ := HF.out _ hb)
        | (go_at_call_of 16 (Value.slice b len c); refine (HL2.out _ (by first | assumption | exact HD.out _ (by assumption) | exact HE.out _ _ (by assumption))).mono ?_; rintro e w4 ⟨rfl, hb⟩; obtain ⟨d0_0, d0_1, d0_2, d0_3, d0_4, d1_0, d1_1, d1_2⟩ := HF.out _ hb)
        | (go_at_call 16; refine (HL.out _ _ (by first | assumption | exact HD.out _ (by assumption) | exact HE.out _ _ (by assumption))).mono ?_; rintro e w3 ⟨rfl, hb⟩; obtain ⟨d0_0, d0_1, d0_2, d0_3, d0_4, d1_0, d1_1, d1_2⟩ := HF.out _ hb))
      go_ret
      exact ⟨rfl, HO.out _ hb⟩

    cases hal2 : allB P Q S len
    · rw [hall] at HL
      rw [hal2] at HL2
      clear hall hal2 h4 hR
      go_enter Try.func5, Try.ntmps5
      go_upto_region 1 with fail
      generalize hW : (w.alloc (.cells (gc P Q G H a n cap) 25)).alloc (.cells (tc u m v) 41) = W at *
      clear hW
      have hb := HZ
      obtain ⟨d0_0, d0_1, d0_2, d0_3, d0_4, d1_0, d1_1, d1_2⟩ := HF.out _ hb
      go_upto_region 3 with (go_at_call 14; refine (HA.out _ (by first | assumption | exact HD.out _ (by assumption) | exact HE.out _ _ (by assumption))).mono ?_; rintro e w1 ⟨rfl, hb⟩; obtain ⟨d0_0, d0_1, d0_2, d0_3, d0_4, d1_0, d1_1, d1_2⟩ := HF.out _ hb)
      go_wp2_with (first
        | (go_at_call 15; refine (HU.out _ (by first | assumption | exact HD.out _ (by assumption) | exact HE.out _ _ (by assumption))).mono ?_; rintro e w2 ⟨rfl, hb⟩; obtain ⟨d0_0, d0_1, d0_2, d0_3, d0_4, d1_0, d1_1, d1_2⟩ := HF.out _ hb)
        | (go_at_call_of 16 (Value.slice b len c); refine (HL2.out _ (by first | assumption | exact HD.out _ (by assumption) | exact HE.out _ _ (by assumption))).mono ?_; rintro e w4 ⟨rfl, hb⟩; obtain ⟨d0_0, d0_1, d0_2, d0_3, d0_4, d1_0, d1_1, d1_2⟩ := HF.out _ hb)
        | (go_at_call 16; refine (HL.out _ _ (by first | assumption | exact HD.out _ (by assumption) | exact HE.out _ _ (by assumption))).mono ?_; rintro e w3 ⟨rfl, hb⟩; obtain ⟨d0_0, d0_1, d0_2, d0_3, d0_4, d1_0, d1_1, d1_2⟩ := HF.out _ hb))
      go_ret
      exact ⟨rfl, HO.out _ hb⟩

    rw [hall] at HL
    rw [hal2] at HL2
    by_cases l2 : len < 2
    · clear hall hal2 h4 hR
      go_enter Try.func5, Try.ntmps5
      go_upto_region 1 with fail
      generalize hW : (w.alloc (.cells (gc P Q G H a n cap) 25)).alloc (.cells (tc u m v) 41) = W at *
      clear hW
      have hb := HZ
      obtain ⟨d0_0, d0_1, d0_2, d0_3, d0_4, d1_0, d1_1, d1_2⟩ := HF.out _ hb
      go_upto_region 3 with (go_at_call 14; refine (HA.out _ (by first | assumption | exact HD.out _ (by assumption) | exact HE.out _ _ (by assumption))).mono ?_; rintro e w1 ⟨rfl, hb⟩; obtain ⟨d0_0, d0_1, d0_2, d0_3, d0_4, d1_0, d1_1, d1_2⟩ := HF.out _ hb)
      go_wp2_with (first
        | (go_at_call 15; refine (HU.out _ (by first | assumption | exact HD.out _ (by assumption) | exact HE.out _ _ (by assumption))).mono ?_; rintro e w2 ⟨rfl, hb⟩; obtain ⟨d0_0, d0_1, d0_2, d0_3, d0_4, d1_0, d1_1, d1_2⟩ := HF.out _ hb)
        | (go_at_call_of 16 (Value.slice b len c); refine (HL2.out _ (by first | assumption | exact HD.out _ (by assumption) | exact HE.out _ _ (by assumption))).mono ?_; rintro e w4 ⟨rfl, hb⟩; obtain ⟨d0_0, d0_1, d0_2, d0_3, d0_4, d1_0, d1_1, d1_2⟩ := HF.out _ hb)
        | (go_at_call 16; refine (HL.out _ _ (by first | assumption | exact HD.out _ (by assumption) | exact HE.out _ _ (by assumption))).mono ?_; rintro e w3 ⟨rfl, hb⟩; obtain ⟨d0_0, d0_1, d0_2, d0_3, d0_4, d1_0, d1_1, d1_2⟩ := HF.out _ hb))
      go_ret
      exact ⟨rfl, HO.out _ hb⟩

    by_cases l20 : 20 < len
    · clear hall hal2 h4 hR
      go_enter Try.func5, Try.ntmps5
      go_upto_region 1 with fail
      generalize hW : (w.alloc (.cells (gc P Q G H a n cap) 25)).alloc (.cells (tc u m v) 41) = W at *
      clear hW
      have hb := HZ
      obtain ⟨d0_0, d0_1, d0_2, d0_3, d0_4, d1_0, d1_1, d1_2⟩ := HF.out _ hb
      go_upto_region 3 with (go_at_call 14; refine (HA.out _ (by first | assumption | exact HD.out _ (by assumption) | exact HE.out _ _ (by assumption))).mono ?_; rintro e w1 ⟨rfl, hb⟩; obtain ⟨d0_0, d0_1, d0_2, d0_3, d0_4, d1_0, d1_1, d1_2⟩ := HF.out _ hb)
      go_wp2_with (first
        | (go_at_call 15; refine (HU.out _ (by first | assumption | exact HD.out _ (by assumption) | exact HE.out _ _ (by assumption))).mono ?_; rintro e w2 ⟨rfl, hb⟩; obtain ⟨d0_0, d0_1, d0_2, d0_3, d0_4, d1_0, d1_1, d1_2⟩ := HF.out _ hb)
        | (go_at_call_of 16 (Value.slice b len c); refine (HL2.out _ (by first | assumption | exact HD.out _ (by assumption) | exact HE.out _ _ (by assumption))).mono ?_; rintro e w4 ⟨rfl, hb⟩; obtain ⟨d0_0, d0_1, d0_2, d0_3, d0_4, d1_0, d1_1, d1_2⟩ := HF.out _ hb)
        | (go_at_call 16; refine (HL.out _ _ (by first | assumption | exact HD.out _ (by assumption) | exact HE.out _ _ (by assumption))).mono ?_; rintro e w3 ⟨rfl, hb⟩; obtain ⟨d0_0, d0_1, d0_2, d0_3, d0_4, d1_0, d1_1, d1_2⟩ := HF.out _ hb))
      go_ret
      exact ⟨rfl, HO.out _ hb⟩

    · have iu : inI P Q u = true := allB_iff.1 hall 0 (by omega)
      have im : inI P Q m = true := allB_iff.1 hall 1 (by omega)
      have iv : inI P Q v = true := allB_iff.1 hall 2 (by omega)
      have iS := allB_iff.1 hal2
      clear hall hal2
      go_enter Try.func5, Try.ntmps5
      go_upto_region 1 with fail
      generalize hW : (w.alloc (.cells (gc P Q G H a n cap) 25)).alloc (.cells (tc u m v) 41) = W at *
      clear hW
      have hb := HZ
      obtain ⟨d0_0, d0_1, d0_2, d0_3, d0_4, d1_0, d1_1, d1_2⟩ := HF.out _ hb
      go_upto_region 3 with (go_at_call 14; refine (HA.out _ (by first | assumption | exact HD.out _ (by assumption) | exact HE.out _ _ (by assumption))).mono ?_; rintro e w1 ⟨rfl, hb⟩; obtain ⟨d0_0, d0_1, d0_2, d0_3, d0_4, d1_0, d1_1, d1_2⟩ := HF.out _ hb)
      go_upto_region 6 with (first
        | (go_at_call 15; refine (HU.out _ (by first | assumption | exact HD.out _ (by assumption) | exact HE.out _ _ (by assumption))).mono ?_; rintro e w2 ⟨rfl, hb⟩; obtain ⟨d0_0, d0_1, d0_2, d0_3, d0_4, d1_0, d1_1, d1_2⟩ := HF.out _ hb)
        | (go_at_call_of 16 (Value.slice b len c); refine (HL2.out _ (by first | assumption | exact HD.out _ (by assumption) | exact HE.out _ _ (by assumption))).mono ?_; rintro e w4 ⟨rfl, hb⟩; obtain ⟨d0_0, d0_1, d0_2, d0_3, d0_4, d1_0, d1_1, d1_2⟩ := HF.out _ hb)
        | (go_at_call 16; refine (HL.out _ _ (by first | assumption | exact HD.out _ (by assumption) | exact HE.out _ _ (by assumption))).mono ?_; rintro e w3 ⟨rfl, hb⟩; obtain ⟨d0_0, d0_1, d0_2, d0_3, d0_4, d1_0, d1_1, d1_2⟩ := HF.out _ hb))
      have HT : Hid (∀ w', Old (w4.alloc (.cells (pc u v) 32)) w' → w'.cell? ⟨w.heap.size, 0, none⟩ = some (.int .u64 P) ∧ w'.cell? ⟨w.heap.size, 1, none⟩ = some (.int .u64 Q) ∧ w'.cell? ⟨w.heap.size, 2, none⟩ = some (.int .u64 G) ∧ w'.cell? ⟨w.heap.size, 3, none⟩ = some (.int .u64 H) ∧ w'.cell? ⟨w.heap.size, 4, none⟩ = some (.slice a n cap) ∧ w'.cell? ⟨w.heap.size + 1, 0, none⟩ = some (.int .u64 u) ∧ w'.cell? ⟨w.heap.size + 1, 1, none⟩ = some (.int .u64 m) ∧ w'.cell? ⟨w.heap.size + 1, 2, none⟩ = some (.int .u64 v) ∧ w'.cell? ⟨w4.heap.size, 0, none⟩ = some (.int .u64 u) ∧ w'.cell? ⟨w4.heap.size, 1, none⟩ = some (.int .u64 v)) := fun w' ho => by
        obtain ⟨e0, e1, e2, e3, e4, e5, e6, e7⟩ := HF.out _ (hb.then (((Old.refl _).alloc _).trans ho))
        exact ⟨e0, e1, e2, e3, e4, e5, e6, e7, ho.cellOf ((World.cell?_alloc_mark w4 _ _ (0, 0) 0).trans rfl), ho.cellOf ((World.cell?_alloc_mark w4 _ _ (0, 0) 1).trans rfl)⟩
      have HV0 : Hid (Old w (w4.alloc (.cells (pc u v) 32))) := hb.old.alloc _
      clear HL HL2 HU HA hb d0_0 d0_1 d0_2 d0_3 d0_4 d1_0 d1_1 d1_2
      generalize hWc : w4.alloc (.cells (pc u v) 32) = wc at *
      clear hWc
      generalize w4.heap.size = bc at *
      rcases HSH.out.old HV0.out with h0 | ⟨bb, off, rfl, hbb, hrr⟩
      · omega
      obtain ⟨cs0, s0, s1⟩ := hrr 0 (by omega)
      clear hrr
      rw [Nat.add_zero] at cs0
      obtain ⟨d0_0, d0_1, d0_2, d0_3, d0_4, d1_0, d1_1, d1_2, c0, c1⟩ := HT.out _ (Old.refl _)
      go_quiet (fail)
      have hX : U64 (bits .xor .u64 v u) := ⟨(bits_within .xor .u64 v u).1, (bits_within .xor .u64 v u).2⟩
      have HS0 : Hid (∀ wx, Old wc wx → FacsIn wx (some ⟨bb, off, none⟩) len S) := fun wx ho => HSH.out.old (HV0.out.trans ho)
      have K1 : Hid (∀ wx, Old wc wx → Calls Try.prog 25 #[gv P Q G H a n cap, .int .u64 (bits .xor .u64 v u), .int .u64 (S 0), tv u m v, .int .u64 m] wx fun e w' => e = .returned (tv u (mulI m (expI P Q G m) P) (mulI (overI P v (expI P Q u (bits .xor .u64 v u))) (expI P Q (S 0) m) P)) ∧ Old wc w') := fun wx hb => (gcross_any P Q G H a n cap (bits .xor .u64 v u) (S 0) u m v m wx h4 hR hX ⟨s0, s1⟩ iu hm hv hm).mono fun e w' ⟨h, k⟩ => ⟨h, hb.trans k⟩
      have K2 : Hid (∀ wx, Old wc wx → Calls Try.prog 26 #[gv P Q G H a n cap, .int .u64 (bits .xor .u64 v u), .int .u64 (S 0), tv u m v, .int .u64 m] wx fun e w' => e = .returned (tv u (mulI m (expI P Q G m) P) (mulI (overI P v (expI P Q u (bits .xor .u64 v u))) (expI P Q (S 0) m) P)) ∧ Old wc w') := fun wx hb => (rcross_any P Q G H a n cap (bits .xor .u64 v u) (S 0) u m v m wx h4 hR hX ⟨s0, s1⟩ iu hm hv hm).mono fun e w' ⟨h, k⟩ => ⟨h, hb.trans k⟩
      have O1 : Hid (∀ wx, Old wc wx → Calls Try.prog 27 #[gv P Q G H a n cap, pv u v, .slice (some ⟨bb, off, none⟩) len c] wx fun e w' => e = .returned (.int .u64 (overI P v (prodI P S len))) ∧ Old wc w') := fun wx hb => (gopen_any P Q G H a n cap u v _ len c S wx h4 hR hv hc (by omega) (HS0.out wx hb) iS).mono fun e w' ⟨h, k⟩ => ⟨h, hb.trans k⟩
      have O2 : Hid (∀ wx, Old wc wx → Calls Try.prog 28 #[gv P Q G H a n cap, pv u v, .slice (some ⟨bb, off, none⟩) len c] wx fun e w' => e = .returned (.int .u64 (overI P v (prodI P S len))) ∧ Old wc w') := fun wx hb => (ropen_any P Q G H a n cap u v _ len c S wx h4 hR hv hc (by omega) (HS0.out wx hb) iS).mono fun e w' ⟨h, k⟩ => ⟨h, hb.trans k⟩
      have E1 : Hid (∀ wx, Old wc wx → Calls Try.prog 29 #[pv u v] wx fun e w' => e = .returned (tv u 1 v) ∧ Old wc w') := fun wx hb => (genter_any u v wx).mono fun e w' ⟨h, k⟩ => ⟨h, hb.trans k⟩
      have E2 : Hid (∀ wx, Old wc wx → Calls Try.prog 30 #[pv u v] wx fun e w' => e = .returned (tv u 1 v) ∧ Old wc w') := fun wx hb => (renter_any u v wx).mono fun e w' ⟨h, k⟩ => ⟨h, hb.trans k⟩
      have L1 : Hid (∀ wx, Old wc wx → Calls Try.prog 31 #[tv u m v] wx fun e w' => e = .returned (pv m v) ∧ Old wc w') := fun wx hb => (gleave_any u m v wx).mono fun e w' ⟨h, k⟩ => ⟨h, hb.trans k⟩
      have L2 : Hid (∀ wx, Old wc wx → Calls Try.prog 32 #[tv u m v] wx fun e w' => e = .returned (pv m v) ∧ Old wc w') := fun wx hb => (rleave_any u m v wx).mono fun e w' ⟨h, k⟩ => ⟨h, hb.trans k⟩
      have J1 : Hid (∀ wx, Old wc wx → Calls Try.prog 33 #[gv P Q G H a n cap, .slice (some ⟨bb, off, none⟩) len c] wx fun e w' => e = .returned (.int .u64 (prodI P S len)) ∧ Old wc w') := fun wx hb => (gjoin_any P Q G H a n cap _ len c S wx h4 hR hc (by omega) (HS0.out wx hb)).mono fun e w' ⟨h, k⟩ => ⟨h, hb.trans k⟩
      have J2 : Hid (∀ wx, Old wc wx → Calls Try.prog 34 #[gv P Q G H a n cap, .slice (some ⟨bb, off, none⟩) len c] wx fun e w' => e = .returned (.int .u64 (prodI P S len)) ∧ Old wc w') := fun wx hb => (rjoin_any P Q G H a n cap _ len c S wx h4 hR hc (by omega) (HS0.out wx hb)).mono fun e w' ⟨h, k⟩ => ⟨h, hb.trans k⟩
      have HD : Hid (∀ wx, Old wc wx → Old wc wx.drew) := fun _ h => h.drew
      have HE : Hid (∀ k, Old wc (wc.drewN k)) := fun k => (Old.refl _).drewN k
      have HE2 : Hid (∀ k, Old wc (wc.drewN k).drew) := fun k => ((Old.refl _).drewN k).drew
      clear h4 hR iu im iv iS hm hv hu HSH HS0 HF s0 s1 hX cs0
      generalize bits .xor .u64 v u = X at *
      generalize mulI m (expI P Q G m) P = X1 at *
      generalize mulI (overI P v (expI P Q u X)) (expI P Q (S 0) m) P = X2 at *
      generalize overI P v (prodI P S len) = X3 at *
      generalize prodI P S len = X4 at *
      generalize S 0 = Y at *
      go_upto_region 7 with fail
      go_region_held3 (fun w' => w'.cell? ⟨w.heap.size, 0, none⟩ = some (.int .u64 P) ∧ w'.cell? ⟨w.heap.size, 1, none⟩ = some (.int .u64 Q) ∧ w'.cell? ⟨w.heap.size, 2, none⟩ = some (.int .u64 G) ∧ w'.cell? ⟨w.heap.size, 3, none⟩ = some (.int .u64 H) ∧ w'.cell? ⟨w.heap.size, 4, none⟩ = some (.slice a n cap) ∧ w'.cell? ⟨w.heap.size + 1, 0, none⟩ = some (.int .u64 u) ∧ w'.cell? ⟨w.heap.size + 1, 1, none⟩ = some (.int .u64 m) ∧ w'.cell? ⟨w.heap.size + 1, 2, none⟩ = some (.int .u64 v) ∧ w'.cell? ⟨bc, 0, none⟩ = some (.int .u64 u) ∧ w'.cell? ⟨bc, 1, none⟩ = some (.int .u64 v)) (first | exact HT.out _ (by first | assumption | exact HE2.out _ | exact HE.out _) | (go_keep; done)) (first
        | (go_at_call 25; refine (K1.out _ (by first | assumption | exact HE2.out _ | exact HE.out _ | exact HD.out _ (by assumption))).mono ?_; rintro e w9 ⟨rfl, hq⟩)
        | (go_at_call 26; refine (K2.out _ (by first | assumption | exact HE2.out _ | exact HE.out _ | exact HD.out _ (by assumption))).mono ?_; rintro e w9 ⟨rfl, hq⟩)
        | (go_at_call 27; refine (O1.out _ (by first | assumption | exact HE2.out _ | exact HE.out _ | exact HD.out _ (by assumption))).mono ?_; rintro e w9 ⟨rfl, hq⟩)
        | (go_at_call 28; refine (O2.out _ (by first | assumption | exact HE2.out _ | exact HE.out _ | exact HD.out _ (by assumption))).mono ?_; rintro e w9 ⟨rfl, hq⟩)
        | (go_at_call 29; refine (E1.out _ (by first | assumption | exact HE2.out _ | exact HE.out _ | exact HD.out _ (by assumption))).mono ?_; rintro e w9 ⟨rfl, hq⟩)
        | (go_at_call 30; refine (E2.out _ (by first | assumption | exact HE2.out _ | exact HE.out _ | exact HD.out _ (by assumption))).mono ?_; rintro e w9 ⟨rfl, hq⟩)
        | (go_at_call 31; refine (L1.out _ (by first | assumption | exact HE2.out _ | exact HE.out _ | exact HD.out _ (by assumption))).mono ?_; rintro e w9 ⟨rfl, hq⟩)
        | (go_at_call 32; refine (L2.out _ (by first | assumption | exact HE2.out _ | exact HE.out _ | exact HD.out _ (by assumption))).mono ?_; rintro e w9 ⟨rfl, hq⟩)
        | (go_at_call 33; refine (J1.out _ (by first | assumption | exact HE2.out _ | exact HE.out _ | exact HD.out _ (by assumption))).mono ?_; rintro e w9 ⟨rfl, hq⟩)
        | (go_at_call 34; refine (J2.out _ (by first | assumption | exact HE2.out _ | exact HE.out _ | exact HD.out _ (by assumption))).mono ?_; rintro e w9 ⟨rfl, hq⟩))
      go_wp2_with fail
      go_ret
      exact ⟨rfl, HV0.out.trans hq⟩

end Go.Proofs.Ythheogiiggiciad
