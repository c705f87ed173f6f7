/-
  The contracts of the program's functions of layer 5: crossing.
-/
import Derived.Test.YthheogiiggiciadVgam2
namespace Go.Proofs.Ythheogiiggiciad
open Go.RowKit

set_option maxHeartbeats 8000000 in
theorem gcross_any (P Q G H : Int) (a : Option Addr) (n cap : Nat) (x y u m v r : Int) (w : World) (h4 : Four P Q G H) (hr : Righ P Q G) (hx : U64 x) (hy : U64 y) (hui : inI P Q u = true) (hm : U64 m) (hv : U64 v) (hrr : U64 r) :
    Calls Try.prog 25 #[gv P Q G H a n cap, .int .u64 x, .int .u64 y, tv u m v, .int .u64 r] w fun e w' => e = .returned (tv u (mulI m (expI P Q G r) P) (mulI (overI P v (expI P Q u x)) (expI P Q y r) P)) ∧ Old w w' := by
  have HE : Hid (∀ x e wx, U64 x → U64 e → Lain w [(gc P Q G H a n cap, 25), (tc u m v, 41), (tc 0 0 0, 41)] wx → Calls Try.prog 13 #[gv P Q G H a n cap, .int .u64 x, .int .u64 e] wx fun r w' => r = .returned (.int .u64 (expI P Q x e)) ∧ Lain w [(gc P Q G H a n cap, 25), (tc u m v, 41), (tc 0 0 0, 41)] w') :=
    fun x e wx hx he hb => (gexp_any P Q G H x e a n cap wx h4 hr hx.1 hx.2 he.1 he.2).mono fun r w' ⟨h, k⟩ => ⟨h, hb.then k⟩
  have HP : Hid (∀ x y t wx, U64 x → U64 y → Lain w [(gc P Q G H a n cap, 25), (tc u m v, 41), (tc 0 0 0, 41)] wx → Calls Try.prog 38 #[gv P Q G H a n cap, .slice (some ⟨wx.heap.size, 0, none⟩) 2 2] (wx.alloc (.cells #[.int .u64 x, .int .u64 y] t)) fun r w' => r = .returned (.int .u64 (mulI x y P)) ∧ Lain w [(gc P Q G H a n cap, 25), (tc u m v, 41), (tc 0 0 0, 41)] w') :=
    fun x y t wx hx hy hb => (gprod_any P Q G H a n cap _ 2 2 _ _ h4 hr (by decide) (by decide) (facs_two wx x y t hx hy)).mono fun r w' ⟨h, k⟩ => ⟨by rw [h, prod5 hr], hb.then (((Old.refl _).alloc _).trans k)⟩
  have HV : Hid (∀ x y wx, U64 x → inI P Q y = true → Lain w [(gc P Q G H a n cap, 25), (tc u m v, 41), (tc 0 0 0, 41)] wx → Calls Try.prog 48 #[gv P Q G H a n cap, .int .u64 x, .int .u64 y] wx fun r w' => r = .returned (.int .u64 (overI P x y)) ∧ Lain w [(gc P Q G H a n cap, 25), (tc u m v, 41), (tc 0 0 0, 41)] w') :=
    fun x y wx hx hy hb => (gover_any P Q G H a n cap x y wx h4 hr hx hy).mono fun r w' ⟨h, k⟩ => ⟨h, hb.then k⟩
  have HG : Hid (∀ wx, Lain w [(gc P Q G H a n cap, 25), (tc u m v, 41), (tc 0 0 0, 41)] wx → Calls Try.prog 21 #[gv P Q G H a n cap, .int .u64 y, pv m (overI P v (expI P Q u x)), .int .u64 r] wx fun e w' => e = .returned (pv (mulI m (expI P Q G r) P) (mulI (overI P v (expI P Q u x)) (expI P Q y r) P)) ∧ Lain w [(gc P Q G H a n cap, 25), (tc u m v, 41), (tc 0 0 0, 41)] w') :=
    fun wx hb => (gagain_any P Q G H a n cap y m _ r wx h4 hr hy hm (u64_over _ _ _) hrr).mono fun e w' ⟨h, k⟩ => ⟨h, hb.then k⟩
  have HD : Hid (∀ wx, Lain w [(gc P Q G H a n cap, 25), (tc u m v, 41), (tc 0 0 0, 41)] wx → Lain w [(gc P Q G H a n cap, 25), (tc u m v, 41), (tc 0 0 0, 41)] wx.drew) := fun _ h => h.then (Old.refl _).drew
  have HO : Hid (∀ wx, Lain w [(gc P Q G H a n cap, 25), (tc u m v, 41), (tc 0 0 0, 41)] wx → Old w wx) := fun _ h => h.old
  have hG : U64 G := ⟨h4.g0, h4.g1⟩
  have hu : U64 u := inI_bd5 hr hui
  have HX : Hid (inI P Q (expI P Q u x) = true) := hr.exp_in hui
  have HF : Hid (∀ w', Lain w [(gc P Q G H a n cap, 25), (tc u m v, 41), (tc 0 0 0, 41)] w' → w'.cell? ⟨w.heap.size, 0, none⟩ = some (.int .u64 P) ∧ w'.cell? ⟨w.heap.size, 1, none⟩ = some (.int .u64 Q) ∧ w'.cell? ⟨w.heap.size, 2, none⟩ = some (.int .u64 G) ∧ w'.cell? ⟨w.heap.size, 3, none⟩ = some (.int .u64 H) ∧ w'.cell? ⟨w.heap.size, 4, none⟩ = some (.slice a n cap) ∧ w'.cell? ⟨w.heap.size + 1, 0, none⟩ = some (.int .u64 u) ∧ w'.cell? ⟨w.heap.size + 1, 1, none⟩ = some (.int .u64 m) ∧ w'.cell? ⟨w.heap.size + 1, 2, none⟩ = some (.int .u64 v)) := fun _ h => ⟨h.cell 0 0 (by simp) rfl, h.cell 0 1 (by simp) rfl, h.cell 0 2 (by simp) rfl, h.cell 0 3 (by simp) rfl, h.cell 0 4 (by simp) rfl, h.cell 1 0 (by simp) rfl, h.cell 1 1 (by simp) rfl, h.cell 1 2 (by simp) rfl⟩
  have HZ := lain3 w (gc P Q G H a n cap) (tc u m v) (tc 0 0 0) 25 41 41
  clear h4 hr hui
  go_enter Try.func25, Try.ntmps25
  go_upto_region 1 with fail
  generalize hW : ((w.alloc (.cells (gc P Q G H a n cap) 25)).alloc (.cells (tc u m v) 41)).alloc (.cells (tc 0 0 0) 41) = W at *
  clear hW
  have hb := HZ
  obtain ⟨d0_0, d0_1, d0_2, d0_3, d0_4, d1_0, d1_1, d1_2⟩ := HF.out _ hb
  go_region_held3 (fun w' => w'.cell? ⟨w.heap.size, 0, none⟩ = some (.int .u64 P) ∧ w'.cell? ⟨w.heap.size, 1, none⟩ = some (.int .u64 Q) ∧ w'.cell? ⟨w.heap.size, 2, none⟩ = some (.int .u64 G) ∧ w'.cell? ⟨w.heap.size, 3, none⟩ = some (.int .u64 H) ∧ w'.cell? ⟨w.heap.size, 4, none⟩ = some (.slice a n cap) ∧ w'.cell? ⟨w.heap.size + 1, 0, none⟩ = some (.int .u64 u) ∧ w'.cell? ⟨w.heap.size + 1, 1, none⟩ = some (.int .u64 m) ∧ w'.cell? ⟨w.heap.size + 1, 2, none⟩ = some (.int .u64 v)) (first | go_keep | exact HF.out _ (by assumption)) (first
    | (go_at_call 13; refine (HE.out _ _ _ (by assumption) (by assumption) (by first | assumption | exact HD.out _ (by assumption))).mono ?_; rintro e w1 ⟨rfl, hb⟩)
    | (go_at_call 38; refine (HP.out _ _ _ _ (by first | assumption | exact u64_over _ _ _) (by first | assumption | exact u64_exp _ _ _ _) (by first | assumption | exact HD.out _ (by assumption))).mono ?_; rintro e w2 ⟨rfl, hb⟩)
    | (go_at_call 48; refine (HV.out _ _ _ hv HX.out (by first | assumption | exact HD.out _ (by assumption))).mono ?_; rintro e w2 ⟨rfl, hb⟩))
  clear d0_0 d0_1 d0_2 d0_3 d0_4 d1_0 d1_1 d1_2
  obtain ⟨d0_0, d0_1, d0_2, d0_3, d0_4, d1_0, d1_1, d1_2⟩ := HF.out _ hb
  clear HE HV HP
  generalize h1 : mulI m (expI P Q G r) P = X1 at HG
  generalize h2 : mulI (overI P v (expI P Q u x)) (expI P Q y r) P = X2 at HG
  have H1 : Hid (tv u X1 X2 = tv u (mulI m (expI P Q G r) P) (mulI (overI P v (expI P Q u x)) (expI P Q y r) P)) := by rw [h1, h2]; exact rfl
  clear h1 h2
  generalize overI P v (expI P Q u x) = O at HG ⊢
  go_upto_region 3 with (go_at_call 21; refine (HG.out _ (by assumption)).mono ?_; rintro e w5 ⟨rfl, hb⟩)
  have hb6 : Lain w [(gc P Q G H a n cap, 25), (tc u m v, 41), (tc 0 0 0, 41)] (w5.alloc (.cells #[.int .u64 X1, .int .u64 X2] 32)) := hb.then ((Old.refl _).alloc _)
  have p0 : (w5.alloc (.cells #[.int .u64 X1, .int .u64 X2] 32)).cell? ⟨w5.heap.size, 0, none⟩ = some (.int .u64 X1) := (World.cell?_alloc_mark w5 _ _ (0, 0) 0).trans rfl
  have p1 : (w5.alloc (.cells #[.int .u64 X1, .int .u64 X2] 32)).cell? ⟨w5.heap.size, 1, none⟩ = some (.int .u64 X2) := (World.cell?_alloc_mark w5 _ _ (0, 0) 1).trans rfl
  clear hb d0_0 d0_1 d0_2 d0_3 d0_4 d1_0 d1_1 d1_2
  generalize w5.alloc (.cells #[.int .u64 X1, .int .u64 X2] 32) = w6 at *
  generalize w5.heap.size = b6 at *
  obtain ⟨d0_0, d0_1, d0_2, d0_3, d0_4, d1_0, d1_1, d1_2⟩ := HF.out _ hb6
  have HL : Hid (Old w w6) := hb6.old
  have HR : Hid (w6.heap[w.heap.size + 2]? = some (.cells #[.int .u64 0, .int .u64 0, .int .u64 0] 41 (0, 0))) := hb6.row 2 (by simp)
  have q0 : w6.cell? ⟨w.heap.size + 1 + 1, 0, none⟩ = some (Value.int .u64 0) := cell_of_row _ _ 0 _ _ (0, 0) HR.out
  have q1 : w6.cell? ⟨w.heap.size + 1 + 1, 1, none⟩ = some (Value.int .u64 0) := cell_of_row _ _ 1 _ _ (0, 0) HR.out
  have q2 : w6.cell? ⟨w.heap.size + 1 + 1, 2, none⟩ = some (Value.int .u64 0) := cell_of_row _ _ 2 _ _ (0, 0) HR.out
  have f0 : w6.frozen? ⟨w.heap.size + 1 + 1, 0, none⟩ = false := row_frozen HR.out 0
  have f1 : w6.frozen? ⟨w.heap.size + 1 + 1, 1, none⟩ = false := row_frozen HR.out 1
  have f2 : w6.frozen? ⟨w.heap.size + 1 + 1, 2, none⟩ = false := row_frozen HR.out 2
  go_wp2_with fail
  exact bodyPost_ret (result5 (b := w.heap.size + 2) rfl rfl (load_three HR.out Try.underlying41 info_three)) rfl ⟨congrArg Ending.returned H1.out, ((HL.out.setCell (by simp; omega) _).setCell (by simp; omega) _).setCell (by simp; omega) _⟩

end Go.Proofs.Ythheogiiggiciad
