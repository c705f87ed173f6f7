/-
  The statement's walk (layer 5): GamalAdds.
-/
import Derived.Test.YthheogiiggiciadVlaw1
namespace Go.Proofs.Ythheogiiggiciad
open Go.RowKit

def three5 (a b c : Int) : Nat → Int | 0 => a | 1 => b | _ => c
theorem facs_three (w : World) (a b c : Int) (t : TypeId) (ha : U64 a) (hb : U64 b) (hc : U64 c) : FacsIn (w.alloc (.cells #[.int .u64 a, .int .u64 b, .int .u64 c] t)) (some ⟨w.heap.size, 0, none⟩) 3 (three5 a b c) := by
  refine Or.inr ⟨_, _, rfl, by simp, fun j hj => ?_⟩
  match j, hj with
  | 0, _ => exact ⟨(World.cell?_alloc_mark w _ t (0, 0) 0).trans rfl, ha.1, ha.2⟩
  | 1, _ => exact ⟨(World.cell?_alloc_mark w _ t (0, 0) 1).trans rfl, hb.1, hb.2⟩
  | 2, _ => exact ⟨(World.cell?_alloc_mark w _ t (0, 0) 2).trans rfl, hc.1, hc.2⟩

set_option linter.unusedSimpArgs false in
set_option maxHeartbeats 8000000 in
theorem law_adds (P Q G H u v y r0 s0 : Int) (a : Option Addr) (n cap : Nat) (N A : Nat → Int) (FA : Nat → Option Addr) (L C : Nat → Nat) (F : Nat → Nat → Int) (w : World) (h4 : Four P Q G H) (_hcap : n ≤ cap) (hin : RowsIn w a n N A FA L C F) (hu : U64 u) (hv : U64 v) (hy : U64 y) (hr : U64 r0) (hs : U64 s0) :
    Calls Try.prog 8 #[gv P Q G H a n cap, pv u v, .agg #[.int .u64 y, .int .u64 r0, .int .u64 s0]] w fun e w' => e = .returned (.bool true) ∧ Old w w' := by
  have HA : Hid (∀ wx, Lain w [(gc P Q G H a n cap, 25), (pc u v, 32), (#[.int .u64 y, .int .u64 r0, .int .u64 s0], 51)] wx → Calls Try.prog 14 #[] wx fun e w' => e = .returned (.bool true) ∧ Lain w [(gc P Q G H a n cap, 25), (pc u v, 32), (#[.int .u64 y, .int .u64 r0, .int .u64 s0], 51)] w') := fun wx hb => (awake5_any wx).mono fun e w' ⟨h, k⟩ => ⟨h, hb.then k⟩
  have HU : Hid (∀ wx, Lain w [(gc P Q G H a n cap, 25), (pc u v, 32), (#[.int .u64 y, .int .u64 r0, .int .u64 s0], 51)] wx → Calls Try.prog 15 #[gv P Q G H a n cap] wx fun e w' => e = .returned (.bool (fewB L n && rightI P Q G H N A F L n)) ∧ Lain w [(gc P Q G H a n cap, 25), (pc u v, 32), (#[.int .u64 y, .int .u64 r0, .int .u64 s0], 51)] w') := fun wx hb => (group5_any P Q G H a n cap N A FA L C F wx h4 (hin.old hb.old)).mono fun e w' ⟨h, k⟩ => ⟨h, hb.then k⟩
  have HF : Hid (∀ w', Lain w [(gc P Q G H a n cap, 25), (pc u v, 32), (#[.int .u64 y, .int .u64 r0, .int .u64 s0], 51)] w' → w'.cell? ⟨w.heap.size, 0, none⟩ = some (.int .u64 P) ∧ w'.cell? ⟨w.heap.size, 1, none⟩ = some (.int .u64 Q) ∧ w'.cell? ⟨w.heap.size, 2, none⟩ = some (.int .u64 G) ∧ w'.cell? ⟨w.heap.size, 3, none⟩ = some (.int .u64 H) ∧ w'.cell? ⟨w.heap.size, 4, none⟩ = some (.slice a n cap) ∧ w'.cell? ⟨w.heap.size + 1, 0, none⟩ = some (.int .u64 u) ∧ w'.cell? ⟨w.heap.size + 1, 1, none⟩ = some (.int .u64 v) ∧ w'.cell? ⟨w.heap.size + 2, 0, none⟩ = some (.int .u64 y) ∧ w'.cell? ⟨w.heap.size + 2, 1, none⟩ = some (.int .u64 r0) ∧ w'.cell? ⟨w.heap.size + 2, 2, none⟩ = some (.int .u64 s0)) := fun _ h => ⟨h.cell 0 0 (by simp) rfl, h.cell 0 1 (by simp) rfl, h.cell 0 2 (by simp) rfl, h.cell 0 3 (by simp) rfl, h.cell 0 4 (by simp) rfl, h.cell 1 0 (by simp) rfl, h.cell 1 1 (by simp) rfl, h.cell 2 0 (by simp) rfl, h.cell 2 1 (by simp) rfl, h.cell 2 2 (by simp) rfl⟩
  have HD : Hid (∀ wx, Lain w [(gc P Q G H a n cap, 25), (pc u v, 32), (#[.int .u64 y, .int .u64 r0, .int .u64 s0], 51)] wx → Lain w [(gc P Q G H a n cap, 25), (pc u v, 32), (#[.int .u64 y, .int .u64 r0, .int .u64 s0], 51)] wx.drew) := fun _ h => h.then (Old.refl _).drew
  have HE : Hid (∀ wx k, Lain w [(gc P Q G H a n cap, 25), (pc u v, 32), (#[.int .u64 y, .int .u64 r0, .int .u64 s0], 51)] wx → Lain w [(gc P Q G H a n cap, 25), (pc u v, 32), (#[.int .u64 y, .int .u64 r0, .int .u64 s0], 51)] (wx.drewN k)) := fun _ k h => h.then ((Old.refl _).drewN k)
  have HO : Hid (∀ wx, Lain w [(gc P Q G H a n cap, 25), (pc u v, 32), (#[.int .u64 y, .int .u64 r0, .int .u64 s0], 51)] wx → Old w wx) := fun _ h => h.old
  have ha := hin.a0
  clear hin
  have HZ := lain3 w (gc P Q G H a n cap) (pc u v) #[.int .u64 y, .int .u64 r0, .int .u64 s0] 25 32 51
  have hrb := hr
  have hsb := hs
  unfold U64 at hrb hsb
  cases hg : (fewB L n && rightI P Q G H N A F L n)
  · rw [hg] at HU
    clear hg ha h4
    go_enter Try.func8, Try.ntmps8
    go_upto_region 1 with fail
    generalize hW : ((w.alloc (.cells (gc P Q G H a n cap) 25)).alloc (.cells (pc u v) 32)).alloc (.cells #[.int .u64 y, .int .u64 r0, .int .u64 s0] 51) = W at *
    clear hW
    have hb := HZ
    obtain ⟨d0_0, d0_1, d0_2, d0_3, d0_4, d1_0, d1_1, d2_0, d2_1, d2_2⟩ := HF.out _ hb
    go_upto_region 3 with (go_at_call 14; refine (HA.out _ (by first | assumption | exact HD.out _ (by assumption) | exact HE.out _ _ (by assumption))).mono ?_; rintro e w1 ⟨rfl, hb⟩; obtain ⟨d0_0, d0_1, d0_2, d0_3, d0_4, d1_0, d1_1, d2_0, d2_1, d2_2⟩ := HF.out _ hb)
    go_quiet (fail)
    go_wp2_with (go_at_call 15; refine (HU.out _ (by first | assumption | exact HD.out _ (by assumption) | exact HE.out _ _ (by assumption))).mono ?_; rintro e w2 ⟨rfl, hb⟩; obtain ⟨d0_0, d0_1, d0_2, d0_3, d0_4, d1_0, d1_1, d2_0, d2_1, d2_2⟩ := HF.out _ hb)
    go_ret
    exact ⟨rfl, HO.out _ hb⟩
  · have hg' := Bool.and_eq_true_iff.1 hg
    have hR := right_righ ha hg'.2
    rw [hg] at HU
    clear hg hg' ha
    have HL : Hid (∀ wx t, Lain w [(gc P Q G H a n cap, 25), (pc u v, 32), (#[.int .u64 y, .int .u64 r0, .int .u64 s0], 51)] wx → Calls Try.prog 16 #[gv P Q G H a n cap, .slice (some ⟨wx.heap.size, 0, none⟩) 3 3] (wx.alloc (.cells #[.int .u64 y, .int .u64 u, .int .u64 v] t)) fun e w' => e = .returned (.bool (allB P Q (three5 y u v) 3)) ∧ Lain w [(gc P Q G H a n cap, 25), (pc u v, 32), (#[.int .u64 y, .int .u64 r0, .int .u64 s0], 51)] w') :=
      fun wx t hb => (all5_any P Q G H a n cap _ 3 3 _ _ h4 (by decide) (facs_three wx y u v t hy hu hv)).mono fun e w' ⟨h, k⟩ => ⟨h, hb.then (((Old.refl _).alloc _).trans k)⟩
    cases hall : allB P Q (three5 y u v) 3
    · rw [hall] at HL
      clear hall h4 hR
      go_enter Try.func8, Try.ntmps8
      go_upto_region 1 with fail
      generalize hW : ((w.alloc (.cells (gc P Q G H a n cap) 25)).alloc (.cells (pc u v) 32)).alloc (.cells #[.int .u64 y, .int .u64 r0, .int .u64 s0] 51) = W at *
      clear hW
      have hb := HZ
      obtain ⟨d0_0, d0_1, d0_2, d0_3, d0_4, d1_0, d1_1, d2_0, d2_1, d2_2⟩ := HF.out _ hb
      go_upto_region 3 with (go_at_call 14; refine (HA.out _ (by first | assumption | exact HD.out _ (by assumption) | exact HE.out _ _ (by assumption))).mono ?_; rintro e w1 ⟨rfl, hb⟩; obtain ⟨d0_0, d0_1, d0_2, d0_3, d0_4, d1_0, d1_1, d2_0, d2_1, d2_2⟩ := HF.out _ hb)
      go_quiet (fail)
      go_wp2_with (first
        | (go_at_call 15; refine (HU.out _ (by first | assumption | exact HD.out _ (by assumption) | exact HE.out _ _ (by assumption))).mono ?_; rintro e w2 ⟨rfl, hb⟩; obtain ⟨d0_0, d0_1, d0_2, d0_3, d0_4, d1_0, d1_1, d2_0, d2_1, d2_2⟩ := HF.out _ hb)
        | (go_at_call 16; refine (HL.out _ _ (by first | assumption | exact HD.out _ (by assumption) | exact HE.out _ _ (by assumption))).mono ?_; rintro e w3 ⟨rfl, hb⟩; obtain ⟨d0_0, d0_1, d0_2, d0_3, d0_4, d1_0, d1_1, d2_0, d2_1, d2_2⟩ := HF.out _ hb))
      go_ret
      exact ⟨rfl, HO.out _ hb⟩
    · rw [hall] at HL
      have iy : inI P Q y = true := allB_iff.1 hall 0 (by omega)
      have iu : inI P Q u = true := allB_iff.1 hall 1 (by omega)
      have iv : inI P Q v = true := allB_iff.1 hall 2 (by omega)
      clear hall
      have hQ : U64 Q := ⟨h4.q0, h4.q1⟩
      have hq5 := hR.q0
      have HG : Hid (∀ u' v' e wx, U64 u' → U64 v' → U64 e → Lain w [(gc P Q G H a n cap, 25), (pc u v, 32), (#[.int .u64 y, .int .u64 r0, .int .u64 s0], 51)] wx → Calls Try.prog 21 #[gv P Q G H a n cap, .int .u64 y, pv u' v', .int .u64 e] wx fun r w' => r = .returned (pv (mulI u' (expI P Q G e) P) (mulI v' (expI P Q y e) P)) ∧ Lain w [(gc P Q G H a n cap, 25), (pc u v, 32), (#[.int .u64 y, .int .u64 r0, .int .u64 s0], 51)] w') :=
        fun u' v' e wx h1 h2 h3 hb => (gagain_any P Q G H a n cap y u' v' e wx h4 hR hy h1 h2 h3).mono fun r w' ⟨h, k⟩ => ⟨h, hb.then k⟩
      have hr4 : 0 ≤ r0 / 4 ∧ r0 / 4 ≤ 4611686018427387903 := by omega
      have hs4 : 0 ≤ s0 / 4 ∧ s0 / 4 ≤ 4611686018427387903 := by omega
      have B1 : Hid (∀ wx, Lain w [(gc P Q G H a n cap, 25), (pc u v, 32), (#[.int .u64 y, .int .u64 r0, .int .u64 s0], 51)] wx → Calls Try.prog 21 #[gv P Q G H a n cap, .int .u64 y, pv u v, .int .u64 (r0 / 4)] wx fun r w' => r = .returned (pv (mulI u (expI P Q G (r0 / 4)) P) (mulI v (expI P Q y (r0 / 4)) P)) ∧ Lain w [(gc P Q G H a n cap, 25), (pc u v, 32), (#[.int .u64 y, .int .u64 r0, .int .u64 s0], 51)] w') := fun wx hb => HG.out u v (r0 / 4) wx hu hv ⟨by omega, by omega⟩ hb
      have B2 : Hid (∀ wx, Lain w [(gc P Q G H a n cap, 25), (pc u v, 32), (#[.int .u64 y, .int .u64 r0, .int .u64 s0], 51)] wx → Calls Try.prog 21 #[gv P Q G H a n cap, .int .u64 y, pv (mulI u (expI P Q G (r0 / 4)) P) (mulI v (expI P Q y (r0 / 4)) P), .int .u64 (s0 / 4)] wx fun r w' => r = .returned (pv (mulI u (expI P Q G (r0 / 4 + s0 / 4)) P) (mulI v (expI P Q y (r0 / 4 + s0 / 4)) P)) ∧ Lain w [(gc P Q G H a n cap, 25), (pc u v, 32), (#[.int .u64 y, .int .u64 r0, .int .u64 s0], 51)] w') := fun wx hb => by
        have := HG.out _ _ (s0 / 4) wx (u64_mul u (expI P Q G (r0 / 4)) P) (u64_mul v (expI P Q y (r0 / 4)) P) ⟨by omega, by omega⟩ hb
        rwa [hR.again_add hR.gin hr4.1 hs4.1, hR.again_add iy hr4.1 hs4.1] at this
      have B3 : Hid (∀ wx, Lain w [(gc P Q G H a n cap, 25), (pc u v, 32), (#[.int .u64 y, .int .u64 r0, .int .u64 s0], 51)] wx → Calls Try.prog 21 #[gv P Q G H a n cap, .int .u64 y, pv u v, .int .u64 (r0 / 4 + s0 / 4)] wx fun r w' => r = .returned (pv (mulI u (expI P Q G (r0 / 4 + s0 / 4)) P) (mulI v (expI P Q y (r0 / 4 + s0 / 4)) P)) ∧ Lain w [(gc P Q G H a n cap, 25), (pc u v, 32), (#[.int .u64 y, .int .u64 r0, .int .u64 s0], 51)] w') := fun wx hb => HG.out u v _ wx hu hv ⟨by omega, by omega⟩ hb
      have B4 : Hid (∀ wx, Lain w [(gc P Q G H a n cap, 25), (pc u v, 32), (#[.int .u64 y, .int .u64 r0, .int .u64 s0], 51)] wx → Calls Try.prog 21 #[gv P Q G H a n cap, .int .u64 y, pv u v, .int .u64 0] wx fun r w' => r = .returned (pv u v) ∧ Lain w [(gc P Q G H a n cap, 25), (pc u v, 32), (#[.int .u64 y, .int .u64 r0, .int .u64 s0], 51)] w') := fun wx hb => by
        have := HG.out u v 0 wx hu hv ⟨by omega, by omega⟩ hb
        rwa [hR.again_none iu (by simp), hR.again_none iv (by simp)] at this
      have B5 : Hid (∀ wx, Lain w [(gc P Q G H a n cap, 25), (pc u v, 32), (#[.int .u64 y, .int .u64 r0, .int .u64 s0], 51)] wx → Calls Try.prog 21 #[gv P Q G H a n cap, .int .u64 y, pv u v, .int .u64 Q] wx fun r w' => r = .returned (pv u v) ∧ Lain w [(gc P Q G H a n cap, 25), (pc u v, 32), (#[.int .u64 y, .int .u64 r0, .int .u64 s0], 51)] w') := fun wx hb => by
        have := HG.out u v Q wx hu hv hQ hb
        rwa [hR.again_none iu (by simp), hR.again_none iv (by simp)] at this
      clear h4 hR HG iy iu iv hq5 hQ
      generalize mulI u (expI P Q G (r0 / 4)) P = X1 at *
      generalize mulI v (expI P Q y (r0 / 4)) P = X2 at *
      generalize mulI u (expI P Q G (r0 / 4 + s0 / 4)) P = X3 at *
      generalize mulI v (expI P Q y (r0 / 4 + s0 / 4)) P = X4 at *
      have hww : IntKind.u64.wrap (r0 / 4 + s0 / 4) = r0 / 4 + s0 / 4 := by rw [IntKind.wrap_u64]; omega
      go_enter Try.func8, Try.ntmps8
      go_upto_region 1 with fail
      generalize hW : ((w.alloc (.cells (gc P Q G H a n cap) 25)).alloc (.cells (pc u v) 32)).alloc (.cells #[.int .u64 y, .int .u64 r0, .int .u64 s0] 51) = W at *
      clear hW
      have hb := HZ
      obtain ⟨d0_0, d0_1, d0_2, d0_3, d0_4, d1_0, d1_1, d2_0, d2_1, d2_2⟩ := HF.out _ hb
      go_upto_region 3 with (go_at_call 14; refine (HA.out _ (by first | assumption | exact HD.out _ (by assumption) | exact HE.out _ _ (by assumption))).mono ?_; rintro e w1 ⟨rfl, hb⟩; obtain ⟨d0_0, d0_1, d0_2, d0_3, d0_4, d1_0, d1_1, d2_0, d2_1, d2_2⟩ := HF.out _ hb)
      go_quiet (fail)
      clear hrb hsb hr hs
      clear d2_0 d2_1 d2_2
      generalize r0 / 4 = rr at *
      generalize s0 / 4 = ss at *
      go_upto_region 6 with (first
        | (go_at_call 15; refine (HU.out _ (by first | assumption | exact HD.out _ (by assumption) | exact HE.out _ _ (by assumption))).mono ?_; rintro e w2 ⟨rfl, hb⟩; obtain ⟨d0_0, d0_1, d0_2, d0_3, d0_4, d1_0, d1_1, d2_0, d2_1, d2_2⟩ := HF.out _ hb)
        | (go_at_call 16; refine (HL.out _ _ (by first | assumption | exact HD.out _ (by assumption) | exact HE.out _ _ (by assumption))).mono ?_; rintro e w3 ⟨rfl, hb⟩; obtain ⟨d0_0, d0_1, d0_2, d0_3, d0_4, d1_0, d1_1, d2_0, d2_1, d2_2⟩ := HF.out _ hb))
      go_region_held3 (fun w' => w'.cell? ⟨w.heap.size, 0, none⟩ = some (.int .u64 P) ∧ w'.cell? ⟨w.heap.size, 1, none⟩ = some (.int .u64 Q) ∧ w'.cell? ⟨w.heap.size, 2, none⟩ = some (.int .u64 G) ∧ w'.cell? ⟨w.heap.size, 3, none⟩ = some (.int .u64 H) ∧ w'.cell? ⟨w.heap.size, 4, none⟩ = some (.slice a n cap) ∧ w'.cell? ⟨w.heap.size + 1, 0, none⟩ = some (.int .u64 u) ∧ w'.cell? ⟨w.heap.size + 1, 1, none⟩ = some (.int .u64 v) ∧ w'.cell? ⟨w.heap.size + 2, 0, none⟩ = some (.int .u64 y) ∧ w'.cell? ⟨w.heap.size + 2, 1, none⟩ = some (.int .u64 r0) ∧ w'.cell? ⟨w.heap.size + 2, 2, none⟩ = some (.int .u64 s0)) (first | exact HF.out _ (by assumption) | (go_keep; done)) (first
        | (go_at_call_of 21 (Value.int IntKind.u64 rr); refine (B1.out _ (by first | assumption | exact HD.out _ (by assumption) | exact HE.out _ _ (by assumption))).mono ?_; rintro e w9 ⟨rfl, hb⟩)
        | (go_at_call_of 21 (Value.int IntKind.u64 ss); refine (B2.out _ (by first | assumption | exact HD.out _ (by assumption) | exact HE.out _ _ (by assumption))).mono ?_; rintro e w9 ⟨rfl, hb⟩)
        | (go_at_call_of 21 (Value.int IntKind.u64 (rr + ss)); refine (B3.out _ (by first | assumption | exact HD.out _ (by assumption) | exact HE.out _ _ (by assumption))).mono ?_; rintro e w9 ⟨rfl, hb⟩)
        | (go_at_call_of 21 (Value.int IntKind.u64 0); refine (B4.out _ (by first | assumption | exact HD.out _ (by assumption) | exact HE.out _ _ (by assumption))).mono ?_; rintro e w9 ⟨rfl, hb⟩)
        | (go_at_call_of 21 (Value.int IntKind.u64 Q); refine (B5.out _ (by first | assumption | exact HD.out _ (by assumption) | exact HE.out _ _ (by assumption))).mono ?_; rintro e w9 ⟨rfl, hb⟩))
      go_wp2_with fail
      go_ret
      exact ⟨rfl, HO.out _ hb⟩

end Go.Proofs.Ythheogiiggiciad
