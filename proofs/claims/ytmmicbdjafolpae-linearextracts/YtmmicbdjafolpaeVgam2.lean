/-
  The contracts of the program's functions of layer 5 (the second part).
-/
import Derived.Test.YtmmicbdjafolpaeVgam
namespace Go.Proofs.Ytmmicbdjafolpae
open Go.RowKit

theorem gkey_any (P Q G H : Int) (a : Option Addr) (n cap : Nat) (x : Int) (w : World) (h4 : Four P Q G H) (hr : Righ P Q G) (hx : U64 x) :
    Calls Try.prog 38 #[gv P Q G H a n cap, .int .u64 x] w fun e w' => e = .returned (.int .u64 (expI P Q G x)) ∧ Old w w' := by
  have HE : Hid (∀ x e wx, U64 x → U64 e → Lain w [(gc P Q G H a n cap, 25)] wx → Calls Try.prog 43 #[gv P Q G H a n cap, .int .u64 x, .int .u64 e] wx fun r w' => r = .returned (.int .u64 (expI P Q x e)) ∧ Lain w [(gc P Q G H a n cap, 25)] w') :=
    fun x e wx hx he hb => (gexp_any P Q G H x e a n cap wx h4 hr hx.1 hx.2 he.1 he.2).mono fun r w' ⟨h, k⟩ => ⟨h, hb.then k⟩
  have HP : Hid (∀ x y t wx, U64 x → U64 y → Lain w [(gc P Q G H a n cap, 25)] wx → Calls Try.prog 42 #[gv P Q G H a n cap, .slice (some ⟨wx.heap.size, 0, none⟩) 2 2] (wx.alloc (.cells #[.int .u64 x, .int .u64 y] t)) fun r w' => r = .returned (.int .u64 (mulI x y P)) ∧ Lain w [(gc P Q G H a n cap, 25)] w') :=
    fun x y t wx hx hy hb => (gprod_any P Q G H a n cap _ 2 2 _ _ h4 hr (by decide) (by decide) (facs_two wx x y t hx hy)).mono fun r w' ⟨h, k⟩ => ⟨by rw [h, prod5 hr], hb.then (((Old.refl _).alloc _).trans k)⟩
  have HD : Hid (∀ wx, Lain w [(gc P Q G H a n cap, 25)] wx → Lain w [(gc P Q G H a n cap, 25)] wx.drew) := fun _ h => h.then (Old.refl _).drew
  have HO : Hid (∀ wx, Lain w [(gc P Q G H a n cap, 25)] wx → Old w wx) := fun _ h => h.old
  have HF : Hid (∀ w', Lain w [(gc P Q G H a n cap, 25)] w' → w'.cell? ⟨w.heap.size, 0, none⟩ = some (.int .u64 P) ∧ w'.cell? ⟨w.heap.size, 1, none⟩ = some (.int .u64 Q) ∧ w'.cell? ⟨w.heap.size, 2, none⟩ = some (.int .u64 G) ∧ w'.cell? ⟨w.heap.size, 3, none⟩ = some (.int .u64 H) ∧ w'.cell? ⟨w.heap.size, 4, none⟩ = some (.slice a n cap)) := fun _ h => ⟨h.cell 0 0 (by simp) rfl, h.cell 0 1 (by simp) rfl, h.cell 0 2 (by simp) rfl, h.cell 0 3 (by simp) rfl, h.cell 0 4 (by simp) rfl⟩
  have hG : U64 G := ⟨h4.g0, h4.g1⟩
  have HZ := lain1 w (gc P Q G H a n cap) 25
  obtain ⟨d0_0, d0_1, d0_2, d0_3, d0_4⟩ := HF.out _ HZ
  clear h4 hr HP
  go_enter Try.func38, Try.ntmps38
  go_wp2_with (go_at_call 43; refine (HE.out _ _ _ hG hx HZ).mono ?_; rintro e w1 ⟨rfl, hb⟩)
  go_ret
  exact ⟨rfl, HO.out _ hb⟩

theorem gjoin_any (P Q G H : Int) (a : Option Addr) (n cap : Nat) (b : Option Addr) (len c : Nat) (F : Nat → Int) (w : World) (h4 : Four P Q G H) (hr : Righ P Q G) (hc : len ≤ c) (hl : len ≤ 1152921504606846976) (hin : FacsIn w b len F) :
    Calls Try.prog 15 #[gv P Q G H a n cap, .slice b len c] w fun e w' => e = .returned (.int .u64 (prodI P F len)) ∧ Old w w' := by
  have HC : Hid (∀ wx, Old w wx → Calls Try.prog 42 #[gv P Q G H a n cap, .slice b len c] wx fun e w' => e = .returned (.int .u64 (prodI P F len)) ∧ Old w w') := fun wx hx => (gprod_any P Q G H a n cap b len c F wx h4 hr hc hl (hin.old hx)).mono fun e w' ⟨h, k⟩ => ⟨h, hx.trans k⟩
  have HZ := lain1 w (gc P Q G H a n cap) 25
  have d0_0 : (w.alloc (.cells (gc P Q G H a n cap) 25)).cell? ⟨w.heap.size, 0, none⟩ = some (.int .u64 P) := HZ.cell 0 0 (by simp) rfl
  have d0_1 : (w.alloc (.cells (gc P Q G H a n cap) 25)).cell? ⟨w.heap.size, 1, none⟩ = some (.int .u64 Q) := HZ.cell 0 1 (by simp) rfl
  have d0_2 : (w.alloc (.cells (gc P Q G H a n cap) 25)).cell? ⟨w.heap.size, 2, none⟩ = some (.int .u64 G) := HZ.cell 0 2 (by simp) rfl
  have d0_3 : (w.alloc (.cells (gc P Q G H a n cap) 25)).cell? ⟨w.heap.size, 3, none⟩ = some (.int .u64 H) := HZ.cell 0 3 (by simp) rfl
  have d0_4 : (w.alloc (.cells (gc P Q G H a n cap) 25)).cell? ⟨w.heap.size, 4, none⟩ = some (.slice a n cap) := HZ.cell 0 4 (by simp) rfl
  clear hin h4 hr
  generalize prodI P F len = R at *
  go_enter Try.func15, Try.ntmps15
  go_wp2_with (go_at_call 42; refine (HC.out _ (by first | exact HZ.old | exact (Old.refl _).alloc _)).mono ?_; rintro e w1 ⟨rfl, ho⟩)
  go_ret
  exact ⟨rfl, ho⟩

theorem gshare_any (P Q G H : Int) (a : Option Addr) (n cap : Nat) (x u v : Int) (w : World) (h4 : Four P Q G H) (hr : Righ P Q G) (hx : U64 x) (hu : U64 u) :
    Calls Try.prog 14 #[gv P Q G H a n cap, .int .u64 x, pv u v] w fun e w' => e = .returned (.int .u64 (expI P Q u x)) ∧ Old w w' := by
  have HE : Hid (∀ x e wx, U64 x → U64 e → Lain w [(gc P Q G H a n cap, 25), (pc u v, 27)] wx → Calls Try.prog 43 #[gv P Q G H a n cap, .int .u64 x, .int .u64 e] wx fun r w' => r = .returned (.int .u64 (expI P Q x e)) ∧ Lain w [(gc P Q G H a n cap, 25), (pc u v, 27)] w') :=
    fun x e wx hx he hb => (gexp_any P Q G H x e a n cap wx h4 hr hx.1 hx.2 he.1 he.2).mono fun r w' ⟨h, k⟩ => ⟨h, hb.then k⟩
  have HP : Hid (∀ x y t wx, U64 x → U64 y → Lain w [(gc P Q G H a n cap, 25), (pc u v, 27)] wx → Calls Try.prog 42 #[gv P Q G H a n cap, .slice (some ⟨wx.heap.size, 0, none⟩) 2 2] (wx.alloc (.cells #[.int .u64 x, .int .u64 y] t)) fun r w' => r = .returned (.int .u64 (mulI x y P)) ∧ Lain w [(gc P Q G H a n cap, 25), (pc u v, 27)] w') :=
    fun x y t wx hx hy hb => (gprod_any P Q G H a n cap _ 2 2 _ _ h4 hr (by decide) (by decide) (facs_two wx x y t hx hy)).mono fun r w' ⟨h, k⟩ => ⟨by rw [h, prod5 hr], hb.then (((Old.refl _).alloc _).trans k)⟩
  have HD : Hid (∀ wx, Lain w [(gc P Q G H a n cap, 25), (pc u v, 27)] wx → Lain w [(gc P Q G H a n cap, 25), (pc u v, 27)] wx.drew) := fun _ h => h.then (Old.refl _).drew
  have HO : Hid (∀ wx, Lain w [(gc P Q G H a n cap, 25), (pc u v, 27)] wx → Old w wx) := fun _ h => h.old
  have HF : Hid (∀ w', Lain w [(gc P Q G H a n cap, 25), (pc u v, 27)] w' → w'.cell? ⟨w.heap.size, 0, none⟩ = some (.int .u64 P) ∧ w'.cell? ⟨w.heap.size, 1, none⟩ = some (.int .u64 Q) ∧ w'.cell? ⟨w.heap.size, 2, none⟩ = some (.int .u64 G) ∧ w'.cell? ⟨w.heap.size, 3, none⟩ = some (.int .u64 H) ∧ w'.cell? ⟨w.heap.size, 4, none⟩ = some (.slice a n cap) ∧ w'.cell? ⟨w.heap.size + 1, 0, none⟩ = some (.int .u64 u) ∧ w'.cell? ⟨w.heap.size + 1, 1, none⟩ = some (.int .u64 v)) := fun _ h => ⟨h.cell 0 0 (by simp) rfl, h.cell 0 1 (by simp) rfl, h.cell 0 2 (by simp) rfl, h.cell 0 3 (by simp) rfl, h.cell 0 4 (by simp) rfl, h.cell 1 0 (by simp) rfl, h.cell 1 1 (by simp) rfl⟩
  have HZ := lain2 w (gc P Q G H a n cap) (pc u v) 25 27
  obtain ⟨d0_0, d0_1, d0_2, d0_3, d0_4, d1_0, d1_1⟩ := HF.out _ HZ
  clear h4 hr HP
  go_enter Try.func14, Try.ntmps14
  go_wp2_with (go_at_call 43; refine (HE.out _ _ _ hu hx HZ).mono ?_; rintro e w1 ⟨rfl, hb⟩)
  go_ret
  exact ⟨rfl, HO.out _ hb⟩

set_option maxHeartbeats 4000000 in
theorem gopen_any (P Q G H : Int) (a : Option Addr) (n cap : Nat) (u v : Int) (b : Option Addr) (len c : Nat) (F : Nat → Int) (w : World) (h4 : Four P Q G H) (hr : Righ P Q G) (hv : U64 v) (hc : len ≤ c) (hl : len ≤ 1152921504606846976) (hin : FacsIn w b len F) (hF : ∀ i, i < len → inI P Q (F i) = true) :
    Calls Try.prog 13 #[gv P Q G H a n cap, pv u v, .slice b len c] w fun e w' => e = .returned (.int .u64 (overI P v (prodI P F len))) ∧ Old w w' := by
  have HE : Hid (∀ x e wx, U64 x → U64 e → Lain w [(gc P Q G H a n cap, 25), (pc u v, 27)] wx → Calls Try.prog 43 #[gv P Q G H a n cap, .int .u64 x, .int .u64 e] wx fun r w' => r = .returned (.int .u64 (expI P Q x e)) ∧ Lain w [(gc P Q G H a n cap, 25), (pc u v, 27)] w') :=
    fun x e wx hx he hb => (gexp_any P Q G H x e a n cap wx h4 hr hx.1 hx.2 he.1 he.2).mono fun r w' ⟨h, k⟩ => ⟨h, hb.then k⟩
  have HP : Hid (∀ x y t wx, U64 x → U64 y → Lain w [(gc P Q G H a n cap, 25), (pc u v, 27)] wx → Calls Try.prog 42 #[gv P Q G H a n cap, .slice (some ⟨wx.heap.size, 0, none⟩) 2 2] (wx.alloc (.cells #[.int .u64 x, .int .u64 y] t)) fun r w' => r = .returned (.int .u64 (mulI x y P)) ∧ Lain w [(gc P Q G H a n cap, 25), (pc u v, 27)] w') :=
    fun x y t wx hx hy hb => (gprod_any P Q G H a n cap _ 2 2 _ _ h4 hr (by decide) (by decide) (facs_two wx x y t hx hy)).mono fun r w' ⟨h, k⟩ => ⟨by rw [h, prod5 hr], hb.then (((Old.refl _).alloc _).trans k)⟩
  have HV : Hid (∀ x y wx, U64 x → inI P Q y = true → Lain w [(gc P Q G H a n cap, 25), (pc u v, 27)] wx → Calls Try.prog 41 #[gv P Q G H a n cap, .int .u64 x, .int .u64 y] wx fun r w' => r = .returned (.int .u64 (overI P x y)) ∧ Lain w [(gc P Q G H a n cap, 25), (pc u v, 27)] w') :=
    fun x y wx hx hy hb => (gover_any P Q G H a n cap x y wx h4 hr hx hy).mono fun r w' ⟨h, k⟩ => ⟨h, hb.then k⟩
  have HD : Hid (∀ wx, Lain w [(gc P Q G H a n cap, 25), (pc u v, 27)] wx → Lain w [(gc P Q G H a n cap, 25), (pc u v, 27)] wx.drew) := fun _ h => h.then (Old.refl _).drew
  have HO : Hid (∀ wx, Lain w [(gc P Q G H a n cap, 25), (pc u v, 27)] wx → Old w wx) := fun _ h => h.old
  have HF : Hid (∀ w', Lain w [(gc P Q G H a n cap, 25), (pc u v, 27)] w' → w'.cell? ⟨w.heap.size, 0, none⟩ = some (.int .u64 P) ∧ w'.cell? ⟨w.heap.size, 1, none⟩ = some (.int .u64 Q) ∧ w'.cell? ⟨w.heap.size, 2, none⟩ = some (.int .u64 G) ∧ w'.cell? ⟨w.heap.size, 3, none⟩ = some (.int .u64 H) ∧ w'.cell? ⟨w.heap.size, 4, none⟩ = some (.slice a n cap) ∧ w'.cell? ⟨w.heap.size + 1, 0, none⟩ = some (.int .u64 u) ∧ w'.cell? ⟨w.heap.size + 1, 1, none⟩ = some (.int .u64 v)) := fun _ h => ⟨h.cell 0 0 (by simp) rfl, h.cell 0 1 (by simp) rfl, h.cell 0 2 (by simp) rfl, h.cell 0 3 (by simp) rfl, h.cell 0 4 (by simp) rfl, h.cell 1 0 (by simp) rfl, h.cell 1 1 (by simp) rfl⟩
  have HC : Hid (∀ wx, Lain w [(gc P Q G H a n cap, 25), (pc u v, 27)] wx → Calls Try.prog 42 #[gv P Q G H a n cap, .slice b len c] wx fun e w' => e = .returned (.int .u64 (prodI P F len)) ∧ Lain w [(gc P Q G H a n cap, 25), (pc u v, 27)] w') := fun wx hb => by
    have hx := hb.old
    exact (gprod_any P Q G H a n cap b len c F wx h4 hr hc hl (hin.old hx)).mono fun e w' ⟨h, k⟩ => ⟨h, hb.then k⟩
  have HQ : Hid (inI P Q (prodI P F len) = true) := hr.prod_in len hF
  have HZ := lain2 w (gc P Q G H a n cap) (pc u v) 25 27
  clear h4 hr HP HE hin hF
  generalize prodI P F len = R at *
  go_enter Try.func13, Try.ntmps13
  go_upto_region 1 with fail
  generalize hW : (w.alloc (.cells (gc P Q G H a n cap) 25)).alloc (.cells (pc u v) 27) = W at *
  clear hW
  obtain ⟨d0_0, d0_1, d0_2, d0_3, d0_4, d1_0, d1_1⟩ := HF.out _ HZ
  go_region_held3 (fun w' => w'.cell? ⟨w.heap.size, 0, none⟩ = some (.int .u64 P) ∧ w'.cell? ⟨w.heap.size, 1, none⟩ = some (.int .u64 Q) ∧ w'.cell? ⟨w.heap.size, 2, none⟩ = some (.int .u64 G) ∧ w'.cell? ⟨w.heap.size, 3, none⟩ = some (.int .u64 H) ∧ w'.cell? ⟨w.heap.size, 4, none⟩ = some (.slice a n cap) ∧ w'.cell? ⟨w.heap.size + 1, 0, none⟩ = some (.int .u64 u) ∧ w'.cell? ⟨w.heap.size + 1, 1, none⟩ = some (.int .u64 v)) (first | go_keep | exact HF.out _ (by assumption)) (first
    | (go_at_call 42; refine (HC.out _ (by first | assumption | exact HD.out _ (by assumption))).mono ?_; rintro e w1 ⟨rfl, hb⟩)
    | (go_at_call 41; refine (HV.out _ _ _ hv HQ.out (by first | assumption | exact HD.out _ (by assumption))).mono ?_; rintro e w2 ⟨rfl, hb⟩))
  go_wp2_with fail
  go_ret
  exact ⟨rfl, HO.out _ hb⟩

set_option maxHeartbeats 4000000 in
theorem gseal_any (P Q G H : Int) (a : Option Addr) (n cap : Nat) (y m r : Int) (w : World) (h4 : Four P Q G H) (hr : Righ P Q G) (hy : U64 y) (hm : U64 m) (hrr : U64 r) :
    Calls Try.prog 37 #[gv P Q G H a n cap, .int .u64 y, .int .u64 m, .int .u64 r] w fun e w' => e = .returned (pv (mulI 1 (expI P Q G r) P) (mulI m (expI P Q y r) P)) ∧ Old w w' := by
  have HC : Hid (∀ wx, Calls Try.prog 58 #[gv P Q G H a n cap, .int .u64 y, pv 1 m, .int .u64 r] wx fun e w' => e = .returned (pv (mulI 1 (expI P Q G r) P) (mulI m (expI P Q y r) P)) ∧ Old wx w') := fun wx => gagain_any P Q G H a n cap y 1 m r wx h4 hr hy ⟨by omega, by omega⟩ hm hrr
  have HZ := lain2 w (gc P Q G H a n cap) (pc 0 0) 25 27
  have d0_0 : ((w.alloc (.cells (gc P Q G H a n cap) 25)).alloc (.cells (pc 0 0) 27)).cell? ⟨w.heap.size, 0, none⟩ = some (.int .u64 P) := HZ.cell 0 0 (by simp) rfl
  have d0_1 : ((w.alloc (.cells (gc P Q G H a n cap) 25)).alloc (.cells (pc 0 0) 27)).cell? ⟨w.heap.size, 1, none⟩ = some (.int .u64 Q) := HZ.cell 0 1 (by simp) rfl
  have d0_2 : ((w.alloc (.cells (gc P Q G H a n cap) 25)).alloc (.cells (pc 0 0) 27)).cell? ⟨w.heap.size, 2, none⟩ = some (.int .u64 G) := HZ.cell 0 2 (by simp) rfl
  have d0_3 : ((w.alloc (.cells (gc P Q G H a n cap) 25)).alloc (.cells (pc 0 0) 27)).cell? ⟨w.heap.size, 3, none⟩ = some (.int .u64 H) := HZ.cell 0 3 (by simp) rfl
  have d0_4 : ((w.alloc (.cells (gc P Q G H a n cap) 25)).alloc (.cells (pc 0 0) 27)).cell? ⟨w.heap.size, 4, none⟩ = some (.slice a n cap) := HZ.cell 0 4 (by simp) rfl
  clear h4 hr
  generalize mulI 1 (expI P Q G r) P = X at *
  generalize mulI m (expI P Q y r) P = Y at *
  go_enter Try.func37, Try.ntmps37
  go_upto_region 1 with fail
  generalize hW : (w.alloc (.cells (gc P Q G H a n cap) 25)).alloc (.cells (pc 0 0) 27) = W at *
  clear hW
  go_wp2_with (go_at_call 58; refine (HC.out _).mono ?_; rintro e w1 ⟨rfl, ho⟩; have hb := HZ.then ho; have hrow := hb.row 1 (by simp); have q0 := cell_of_row _ _ 0 _ _ (0, 0) hrow; have q1 := cell_of_row _ _ 1 _ _ (0, 0) hrow; have f0 := row_frozen hrow 0; have f1 := row_frozen hrow 1; simp at q0 q1; have HL : Hid (Old w w1) := hb.old; have HR : Hid (w1.heap[w.heap.size + 1]? = some (.cells #[.int .u64 0, .int .u64 0] 27 (0, 0))) := hrow; clear hrow hb)
  exact bodyPost_ret (result5 (b := w.heap.size + 1) rfl rfl (load_two HR.out Try.underlying27 info_pair)) rfl ⟨rfl, (HL.out.setCell (by simp) _).setCell (by simp) _⟩

end Go.Proofs.Ytmmicbdjafolpae
