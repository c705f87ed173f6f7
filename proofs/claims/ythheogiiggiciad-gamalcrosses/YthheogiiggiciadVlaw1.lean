/-
  The statement's walk (layer 5): GamalSeals.
-/
import Derived.Test.YthheogiiggiciadVawk
namespace Go.Proofs.Ythheogiiggiciad
open Go.RowKit

def four5 (a b c d : Int) : Nat → Int | 0 => a | 1 => b | 2 => c | _ => d
theorem facs_four (w : World) (a b c d : Int) (t : TypeId) (ha : U64 a) (hb : U64 b) (hc : U64 c) (hd : U64 d) : FacsIn (w.alloc (.cells #[.int .u64 a, .int .u64 b, .int .u64 c, .int .u64 d] t)) (some ⟨w.heap.size, 0, none⟩) 4 (four5 a b c d) := by
  refine Or.inr ⟨_, _, rfl, by simp, fun j hj => ?_⟩
  match j, hj with
  | 0, _ => exact ⟨(World.cell?_alloc_mark w _ t (0, 0) 0).trans rfl, ha.1, ha.2⟩
  | 1, _ => exact ⟨(World.cell?_alloc_mark w _ t (0, 0) 1).trans rfl, hb.1, hb.2⟩
  | 2, _ => exact ⟨(World.cell?_alloc_mark w _ t (0, 0) 2).trans rfl, hc.1, hc.2⟩
  | 3, _ => exact ⟨(World.cell?_alloc_mark w _ t (0, 0) 3).trans rfl, hd.1, hd.2⟩

set_option linter.unusedSimpArgs false in
set_option maxHeartbeats 8000000 in
theorem law_seals (P Q G H u v y m r x : Int) (a : Option Addr) (n cap : Nat) (N A : Nat → Int) (FA : Nat → Option Addr) (L C : Nat → Nat) (F : Nat → Nat → Int) (w : World) (h4 : Four P Q G H) (_hcap : n ≤ cap) (hin : RowsIn w a n N A FA L C F) (hu : U64 u) (hv : U64 v) (hy : U64 y) (hm : U64 m) (hr : U64 r) (hx : U64 x) :
    Calls Try.prog 4 #[gv P Q G H a n cap, pv u v, .agg #[.int .u64 y, .int .u64 m, .int .u64 r, .int .u64 x]] w fun e w' => e = .returned (.bool true) ∧ Old w w' := by
  have HA : Hid (∀ wx, Lain w [(gc P Q G H a n cap, 25), (pc u v, 32), (#[.int .u64 y, .int .u64 m, .int .u64 r, .int .u64 x], 33)] wx → Calls Try.prog 14 #[] wx fun e w' => e = .returned (.bool true) ∧ Lain w [(gc P Q G H a n cap, 25), (pc u v, 32), (#[.int .u64 y, .int .u64 m, .int .u64 r, .int .u64 x], 33)] w') := fun wx hb => (awake5_any wx).mono fun e w' ⟨h, k⟩ => ⟨h, hb.then k⟩
  have HU : Hid (∀ wx, Lain w [(gc P Q G H a n cap, 25), (pc u v, 32), (#[.int .u64 y, .int .u64 m, .int .u64 r, .int .u64 x], 33)] wx → Calls Try.prog 15 #[gv P Q G H a n cap] wx fun e w' => e = .returned (.bool (fewB L n && rightI P Q G H N A F L n)) ∧ Lain w [(gc P Q G H a n cap, 25), (pc u v, 32), (#[.int .u64 y, .int .u64 m, .int .u64 r, .int .u64 x], 33)] w') := fun wx hb => (group5_any P Q G H a n cap N A FA L C F wx h4 (hin.old hb.old)).mono fun e w' ⟨h, k⟩ => ⟨h, hb.then k⟩
  have HF : Hid (∀ w', Lain w [(gc P Q G H a n cap, 25), (pc u v, 32), (#[.int .u64 y, .int .u64 m, .int .u64 r, .int .u64 x], 33)] w' → w'.cell? ⟨w.heap.size, 0, none⟩ = some (.int .u64 P) ∧ w'.cell? ⟨w.heap.size, 1, none⟩ = some (.int .u64 Q) ∧ w'.cell? ⟨w.heap.size, 2, none⟩ = some (.int .u64 G) ∧ w'.cell? ⟨w.heap.size, 3, none⟩ = some (.int .u64 H) ∧ w'.cell? ⟨w.heap.size, 4, none⟩ = some (.slice a n cap) ∧ w'.cell? ⟨w.heap.size + 1, 0, none⟩ = some (.int .u64 u) ∧ w'.cell? ⟨w.heap.size + 1, 1, none⟩ = some (.int .u64 v) ∧ w'.cell? ⟨w.heap.size + 2, 0, none⟩ = some (.int .u64 y) ∧ w'.cell? ⟨w.heap.size + 2, 1, none⟩ = some (.int .u64 m) ∧ w'.cell? ⟨w.heap.size + 2, 2, none⟩ = some (.int .u64 r) ∧ w'.cell? ⟨w.heap.size + 2, 3, none⟩ = some (.int .u64 x)) := fun _ h => ⟨h.cell 0 0 (by simp) rfl, h.cell 0 1 (by simp) rfl, h.cell 0 2 (by simp) rfl, h.cell 0 3 (by simp) rfl, h.cell 0 4 (by simp) rfl, h.cell 1 0 (by simp) rfl, h.cell 1 1 (by simp) rfl, h.cell 2 0 (by simp) rfl, h.cell 2 1 (by simp) rfl, h.cell 2 2 (by simp) rfl, h.cell 2 3 (by simp) rfl⟩
  have HD : Hid (∀ wx, Lain w [(gc P Q G H a n cap, 25), (pc u v, 32), (#[.int .u64 y, .int .u64 m, .int .u64 r, .int .u64 x], 33)] wx → Lain w [(gc P Q G H a n cap, 25), (pc u v, 32), (#[.int .u64 y, .int .u64 m, .int .u64 r, .int .u64 x], 33)] wx.drew) := fun _ h => h.then (Old.refl _).drew
  have HE : Hid (∀ wx k, Lain w [(gc P Q G H a n cap, 25), (pc u v, 32), (#[.int .u64 y, .int .u64 m, .int .u64 r, .int .u64 x], 33)] wx → Lain w [(gc P Q G H a n cap, 25), (pc u v, 32), (#[.int .u64 y, .int .u64 m, .int .u64 r, .int .u64 x], 33)] (wx.drewN k)) := fun _ k h => h.then ((Old.refl _).drewN k)
  have HO : Hid (∀ wx, Lain w [(gc P Q G H a n cap, 25), (pc u v, 32), (#[.int .u64 y, .int .u64 m, .int .u64 r, .int .u64 x], 33)] wx → Old w wx) := fun _ h => h.old
  have ha := hin.a0
  clear hin
  have HZ := lain3 w (gc P Q G H a n cap) (pc u v) #[.int .u64 y, .int .u64 m, .int .u64 r, .int .u64 x] 25 32 33
  cases hg : (fewB L n && rightI P Q G H N A F L n)
  · rw [hg] at HU
    clear hg ha h4
    go_enter Try.func4, Try.ntmps4
    go_upto_region 1 with fail
    generalize hW : ((w.alloc (.cells (gc P Q G H a n cap) 25)).alloc (.cells (pc u v) 32)).alloc (.cells #[.int .u64 y, .int .u64 m, .int .u64 r, .int .u64 x] 33) = W at *
    clear hW
    have hb := HZ
    obtain ⟨d0_0, d0_1, d0_2, d0_3, d0_4, d1_0, d1_1, d2_0, d2_1, d2_2, d2_3⟩ := HF.out _ hb
    go_upto_region 3 with (go_at_call 14; refine (HA.out _ (by first | assumption | exact HD.out _ (by assumption) | exact HE.out _ _ (by assumption))).mono ?_; rintro e w1 ⟨rfl, hb⟩; obtain ⟨d0_0, d0_1, d0_2, d0_3, d0_4, d1_0, d1_1, d2_0, d2_1, d2_2, d2_3⟩ := HF.out _ hb)
    go_quiet (fail)
    go_wp2_with (go_at_call 15; refine (HU.out _ (by first | assumption | exact HD.out _ (by assumption) | exact HE.out _ _ (by assumption))).mono ?_; rintro e w2 ⟨rfl, hb⟩; obtain ⟨d0_0, d0_1, d0_2, d0_3, d0_4, d1_0, d1_1, d2_0, d2_1, d2_2, d2_3⟩ := HF.out _ hb)
    go_ret
    exact ⟨rfl, HO.out _ hb⟩
  · have hg' := Bool.and_eq_true_iff.1 hg
    have hR := right_righ ha hg'.2
    rw [hg] at HU
    clear hg hg' ha
    have HL : Hid (∀ wx t, Lain w [(gc P Q G H a n cap, 25), (pc u v, 32), (#[.int .u64 y, .int .u64 m, .int .u64 r, .int .u64 x], 33)] wx → Calls Try.prog 16 #[gv P Q G H a n cap, .slice (some ⟨wx.heap.size, 0, none⟩) 4 4] (wx.alloc (.cells #[.int .u64 y, .int .u64 m, .int .u64 u, .int .u64 v] t)) fun e w' => e = .returned (.bool (allB P Q (four5 y m u v) 4)) ∧ Lain w [(gc P Q G H a n cap, 25), (pc u v, 32), (#[.int .u64 y, .int .u64 m, .int .u64 r, .int .u64 x], 33)] w') :=
      fun wx t hb => (all5_any P Q G H a n cap _ 4 4 _ _ h4 (by decide) (facs_four wx y m u v t hy hm hu hv)).mono fun e w' ⟨h, k⟩ => ⟨h, hb.then (((Old.refl _).alloc _).trans k)⟩
    cases hall : allB P Q (four5 y m u v) 4
    · rw [hall] at HL
      clear hall h4 hR
      go_enter Try.func4, Try.ntmps4
      go_upto_region 1 with fail
      generalize hW : ((w.alloc (.cells (gc P Q G H a n cap) 25)).alloc (.cells (pc u v) 32)).alloc (.cells #[.int .u64 y, .int .u64 m, .int .u64 r, .int .u64 x] 33) = W at *
      clear hW
      have hb := HZ
      obtain ⟨d0_0, d0_1, d0_2, d0_3, d0_4, d1_0, d1_1, d2_0, d2_1, d2_2, d2_3⟩ := HF.out _ hb
      go_upto_region 3 with (go_at_call 14; refine (HA.out _ (by first | assumption | exact HD.out _ (by assumption) | exact HE.out _ _ (by assumption))).mono ?_; rintro e w1 ⟨rfl, hb⟩; obtain ⟨d0_0, d0_1, d0_2, d0_3, d0_4, d1_0, d1_1, d2_0, d2_1, d2_2, d2_3⟩ := HF.out _ hb)
      go_quiet (fail)
      go_wp2_with (first
        | (go_at_call 15; refine (HU.out _ (by first | assumption | exact HD.out _ (by assumption) | exact HE.out _ _ (by assumption))).mono ?_; rintro e w2 ⟨rfl, hb⟩; obtain ⟨d0_0, d0_1, d0_2, d0_3, d0_4, d1_0, d1_1, d2_0, d2_1, d2_2, d2_3⟩ := HF.out _ hb)
        | (go_at_call 16; refine (HL.out _ _ (by first | assumption | exact HD.out _ (by assumption) | exact HE.out _ _ (by assumption))).mono ?_; rintro e w3 ⟨rfl, hb⟩; obtain ⟨d0_0, d0_1, d0_2, d0_3, d0_4, d1_0, d1_1, d2_0, d2_1, d2_2, d2_3⟩ := HF.out _ hb))
      go_ret
      exact ⟨rfl, HO.out _ hb⟩
    · rw [hall] at HL
      clear hall
      have K1 : Hid (∀ wx, Lain w [(gc P Q G H a n cap, 25), (pc u v, 32), (#[.int .u64 y, .int .u64 m, .int .u64 r, .int .u64 x], 33)] wx → Calls Try.prog 17 #[gv P Q G H a n cap, .int .u64 x] wx fun e w' => e = .returned (.int .u64 (expI P Q G x)) ∧ Lain w [(gc P Q G H a n cap, 25), (pc u v, 32), (#[.int .u64 y, .int .u64 m, .int .u64 r, .int .u64 x], 33)] w') := fun wx hb => (gkey_any P Q G H a n cap x wx h4 hR hx).mono fun e w' ⟨h, k⟩ => ⟨h, hb.then k⟩
      have K2 : Hid (∀ wx, Lain w [(gc P Q G H a n cap, 25), (pc u v, 32), (#[.int .u64 y, .int .u64 m, .int .u64 r, .int .u64 x], 33)] wx → Calls Try.prog 18 #[gv P Q G H a n cap, .int .u64 x] wx fun e w' => e = .returned (.int .u64 (expI P Q G x)) ∧ Lain w [(gc P Q G H a n cap, 25), (pc u v, 32), (#[.int .u64 y, .int .u64 m, .int .u64 r, .int .u64 x], 33)] w') := fun wx hb => (rkey_any P Q G H a n cap x wx h4 hR hx).mono fun e w' ⟨h, k⟩ => ⟨h, hb.then k⟩
      have S1 : Hid (∀ wx, Lain w [(gc P Q G H a n cap, 25), (pc u v, 32), (#[.int .u64 y, .int .u64 m, .int .u64 r, .int .u64 x], 33)] wx → Calls Try.prog 19 #[gv P Q G H a n cap, .int .u64 y, .int .u64 m, .int .u64 r] wx fun e w' => e = .returned (pv (mulI 1 (expI P Q G r) P) (mulI m (expI P Q y r) P)) ∧ Lain w [(gc P Q G H a n cap, 25), (pc u v, 32), (#[.int .u64 y, .int .u64 m, .int .u64 r, .int .u64 x], 33)] w') := fun wx hb => (gseal_any P Q G H a n cap y m r wx h4 hR hy hm hr).mono fun e w' ⟨h, k⟩ => ⟨h, hb.then k⟩
      have S2 : Hid (∀ wx, Lain w [(gc P Q G H a n cap, 25), (pc u v, 32), (#[.int .u64 y, .int .u64 m, .int .u64 r, .int .u64 x], 33)] wx → Calls Try.prog 20 #[gv P Q G H a n cap, .int .u64 y, .int .u64 m, .int .u64 r] wx fun e w' => e = .returned (pv (mulI 1 (expI P Q G r) P) (mulI m (expI P Q y r) P)) ∧ Lain w [(gc P Q G H a n cap, 25), (pc u v, 32), (#[.int .u64 y, .int .u64 m, .int .u64 r, .int .u64 x], 33)] w') := fun wx hb => (rseal_any P Q G H a n cap y m r wx h4 hR hy hm hr).mono fun e w' ⟨h, k⟩ => ⟨h, hb.then k⟩
      have A1 : Hid (∀ wx, Lain w [(gc P Q G H a n cap, 25), (pc u v, 32), (#[.int .u64 y, .int .u64 m, .int .u64 r, .int .u64 x], 33)] wx → Calls Try.prog 21 #[gv P Q G H a n cap, .int .u64 y, pv u v, .int .u64 r] wx fun e w' => e = .returned (pv (mulI u (expI P Q G r) P) (mulI v (expI P Q y r) P)) ∧ Lain w [(gc P Q G H a n cap, 25), (pc u v, 32), (#[.int .u64 y, .int .u64 m, .int .u64 r, .int .u64 x], 33)] w') := fun wx hb => (gagain_any P Q G H a n cap y u v r wx h4 hR hy hu hv hr).mono fun e w' ⟨h, k⟩ => ⟨h, hb.then k⟩
      have A2 : Hid (∀ wx, Lain w [(gc P Q G H a n cap, 25), (pc u v, 32), (#[.int .u64 y, .int .u64 m, .int .u64 r, .int .u64 x], 33)] wx → Calls Try.prog 22 #[gv P Q G H a n cap, .int .u64 y, pv u v, .int .u64 r] wx fun e w' => e = .returned (pv (mulI u (expI P Q G r) P) (mulI v (expI P Q y r) P)) ∧ Lain w [(gc P Q G H a n cap, 25), (pc u v, 32), (#[.int .u64 y, .int .u64 m, .int .u64 r, .int .u64 x], 33)] w') := fun wx hb => (ragain_any P Q G H a n cap y u v r wx h4 hR hy hu hv hr).mono fun e w' ⟨h, k⟩ => ⟨h, hb.then k⟩
      have H1 : Hid (∀ wx, Lain w [(gc P Q G H a n cap, 25), (pc u v, 32), (#[.int .u64 y, .int .u64 m, .int .u64 r, .int .u64 x], 33)] wx → Calls Try.prog 23 #[gv P Q G H a n cap, .int .u64 x, pv u v] wx fun e w' => e = .returned (.int .u64 (expI P Q u x)) ∧ Lain w [(gc P Q G H a n cap, 25), (pc u v, 32), (#[.int .u64 y, .int .u64 m, .int .u64 r, .int .u64 x], 33)] w') := fun wx hb => (gshare_any P Q G H a n cap x u v wx h4 hR hx hu).mono fun e w' ⟨h, k⟩ => ⟨h, hb.then k⟩
      have H2 : Hid (∀ wx, Lain w [(gc P Q G H a n cap, 25), (pc u v, 32), (#[.int .u64 y, .int .u64 m, .int .u64 r, .int .u64 x], 33)] wx → Calls Try.prog 24 #[gv P Q G H a n cap, .int .u64 x, pv u v] wx fun e w' => e = .returned (.int .u64 (expI P Q u x)) ∧ Lain w [(gc P Q G H a n cap, 25), (pc u v, 32), (#[.int .u64 y, .int .u64 m, .int .u64 r, .int .u64 x], 33)] w') := fun wx hb => (rshare_any P Q G H a n cap x u v wx h4 hR hx hu).mono fun e w' ⟨h, k⟩ => ⟨h, hb.then k⟩
      clear h4 hR
      generalize expI P Q G x = X1 at *
      generalize mulI 1 (expI P Q G r) P = X2 at *
      generalize mulI m (expI P Q y r) P = X3 at *
      generalize mulI u (expI P Q G r) P = X4 at *
      generalize mulI v (expI P Q y r) P = X5 at *
      generalize expI P Q u x = X6 at *
      go_enter Try.func4, Try.ntmps4
      go_upto_region 1 with fail
      generalize hW : ((w.alloc (.cells (gc P Q G H a n cap) 25)).alloc (.cells (pc u v) 32)).alloc (.cells #[.int .u64 y, .int .u64 m, .int .u64 r, .int .u64 x] 33) = W at *
      clear hW
      have hb := HZ
      obtain ⟨d0_0, d0_1, d0_2, d0_3, d0_4, d1_0, d1_1, d2_0, d2_1, d2_2, d2_3⟩ := HF.out _ hb
      go_upto_region 3 with (go_at_call 14; refine (HA.out _ (by first | assumption | exact HD.out _ (by assumption) | exact HE.out _ _ (by assumption))).mono ?_; rintro e w1 ⟨rfl, hb⟩; obtain ⟨d0_0, d0_1, d0_2, d0_3, d0_4, d1_0, d1_1, d2_0, d2_1, d2_2, d2_3⟩ := HF.out _ hb)
      go_quiet (fail)
      go_upto_region 6 with (first
        | (go_at_call 15; refine (HU.out _ (by first | assumption | exact HD.out _ (by assumption) | exact HE.out _ _ (by assumption))).mono ?_; rintro e w2 ⟨rfl, hb⟩; obtain ⟨d0_0, d0_1, d0_2, d0_3, d0_4, d1_0, d1_1, d2_0, d2_1, d2_2, d2_3⟩ := HF.out _ hb)
        | (go_at_call 16; refine (HL.out _ _ (by first | assumption | exact HD.out _ (by assumption) | exact HE.out _ _ (by assumption))).mono ?_; rintro e w3 ⟨rfl, hb⟩; obtain ⟨d0_0, d0_1, d0_2, d0_3, d0_4, d1_0, d1_1, d2_0, d2_1, d2_2, d2_3⟩ := HF.out _ hb))
      go_region_held3 (fun w' => w'.cell? ⟨w.heap.size, 0, none⟩ = some (.int .u64 P) ∧ w'.cell? ⟨w.heap.size, 1, none⟩ = some (.int .u64 Q) ∧ w'.cell? ⟨w.heap.size, 2, none⟩ = some (.int .u64 G) ∧ w'.cell? ⟨w.heap.size, 3, none⟩ = some (.int .u64 H) ∧ w'.cell? ⟨w.heap.size, 4, none⟩ = some (.slice a n cap) ∧ w'.cell? ⟨w.heap.size + 1, 0, none⟩ = some (.int .u64 u) ∧ w'.cell? ⟨w.heap.size + 1, 1, none⟩ = some (.int .u64 v) ∧ w'.cell? ⟨w.heap.size + 2, 0, none⟩ = some (.int .u64 y) ∧ w'.cell? ⟨w.heap.size + 2, 1, none⟩ = some (.int .u64 m) ∧ w'.cell? ⟨w.heap.size + 2, 2, none⟩ = some (.int .u64 r) ∧ w'.cell? ⟨w.heap.size + 2, 3, none⟩ = some (.int .u64 x)) (first | exact HF.out _ (by assumption) | (go_keep; done)) (first
        | (go_at_call 17; refine (K1.out _ (by first | assumption | exact HD.out _ (by assumption) | exact HE.out _ _ (by assumption))).mono ?_; rintro e w9 ⟨rfl, hb⟩)
        | (go_at_call 18; refine (K2.out _ (by first | assumption | exact HD.out _ (by assumption) | exact HE.out _ _ (by assumption))).mono ?_; rintro e w9 ⟨rfl, hb⟩)
        | (go_at_call 19; refine (S1.out _ (by first | assumption | exact HD.out _ (by assumption) | exact HE.out _ _ (by assumption))).mono ?_; rintro e w9 ⟨rfl, hb⟩)
        | (go_at_call 20; refine (S2.out _ (by first | assumption | exact HD.out _ (by assumption) | exact HE.out _ _ (by assumption))).mono ?_; rintro e w9 ⟨rfl, hb⟩)
        | (go_at_call 21; refine (A1.out _ (by first | assumption | exact HD.out _ (by assumption) | exact HE.out _ _ (by assumption))).mono ?_; rintro e w9 ⟨rfl, hb⟩)
        | (go_at_call 22; refine (A2.out _ (by first | assumption | exact HD.out _ (by assumption) | exact HE.out _ _ (by assumption))).mono ?_; rintro e w9 ⟨rfl, hb⟩)
        | (go_at_call 23; refine (H1.out _ (by first | assumption | exact HD.out _ (by assumption) | exact HE.out _ _ (by assumption))).mono ?_; rintro e w9 ⟨rfl, hb⟩)
        | (go_at_call 24; refine (H2.out _ (by first | assumption | exact HD.out _ (by assumption) | exact HE.out _ _ (by assumption))).mono ?_; rintro e w9 ⟨rfl, hb⟩))
      go_wp2_with fail
      go_ret
      exact ⟨rfl, HO.out _ hb⟩

end Go.Proofs.Ythheogiiggiciad
