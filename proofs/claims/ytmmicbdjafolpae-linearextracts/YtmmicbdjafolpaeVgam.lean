/-
  The contracts of the program's functions of layer 5, and of its quotient (layer 4).
-/
import Derived.Test.YtmmicbdjafolpaeVref3
import Derived.Test.YtmmicbdjafolpaeInvs
namespace Go.Proofs.Ytmmicbdjafolpae
open Go.RowKit

theorem gover_any (P Q G H : Int) (a : Option Addr) (n cap : Nat) (x y : Int) (w : World) (h4 : Four P Q G H) (hr : Righ P Q G) (hx : U64 x) (hy : inI P Q y = true) :
    Calls Try.prog 41 #[gv P Q G H a n cap, .int .u64 x, .int .u64 y] w fun e w' => e = .returned (.int .u64 (overI P x y)) ∧ Old w w' := by
  have hy2 := inI_bd5 hr hy
  have hiv := hr.inv hy
  have hi2 := inI_bd5 hr hiv.2.1
  have HI : Hid (∀ wx, Beh w P Q G H a n cap wx → Calls Try.prog 56 #[.int .u64 y, .int .u64 P] wx fun e w' => e = .returned (.tuple #[.int .u64 (invI y P), .bool true]) ∧ Beh w P Q G H a n cap w') :=
    fun wx hb => (inv_any y P wx hy2.1 hy2.2).mono fun e w' ⟨h, k⟩ => ⟨by rw [h, hiv.1], hb.then ((Old.refl _).draws k)⟩
  have HN' : Hid (∀ wx, Beh w P Q G H a n cap wx → Calls Try.prog 61 #[gv P Q G H a n cap, .int .u64 (invI y P)] wx fun e w' => e = .returned (.bool true) ∧ Beh w P Q G H a n cap w') :=
    fun wx hb => (gin0 P Q G H (invI y P) a n cap wx h4.q0 h4.q1 hi2.2).mono fun e w' ⟨h, k⟩ => ⟨by rw [h, hiv.2.1], hb.then k⟩
  have HM : Hid (∀ wx t, Beh w P Q G H a n cap wx → Calls Try.prog 42 #[gv P Q G H a n cap, .slice (some ⟨wx.heap.size, 0, none⟩) 2 2] (wx.alloc (.cells #[.int .u64 x, .int .u64 (invI y P)] t)) fun e w' => e = .returned (.int .u64 (overI P x y)) ∧ Beh w P Q G H a n cap w') :=
    fun wx t hb => (gprod_any P Q G H a n cap _ 2 2 _ _ h4 hr (by decide) (by decide) (facs_two wx x (invI y P) t hx hi2)).mono fun e w' ⟨h, k⟩ => ⟨by rw [h, prod5 hr]; rfl, hb.then (((Old.refl _).alloc _).trans k)⟩
  have HN : Hid (∀ t, Beh w P Q G H a n cap (w.alloc (go P Q G H a n cap t))) := fun t => Beh.new ..
  have HF : Hid (∀ wx, Beh w P Q G H a n cap wx → wx.cell? ⟨w.heap.size, 0, none⟩ = some (.int .u64 P) ∧ wx.cell? ⟨w.heap.size, 1, none⟩ = some (.int .u64 Q) ∧ wx.cell? ⟨w.heap.size, 2, none⟩ = some (.int .u64 G) ∧ wx.cell? ⟨w.heap.size, 3, none⟩ = some (.int .u64 H) ∧ wx.cell? ⟨w.heap.size, 4, none⟩ = some (.slice a n cap)) := fun _ hb => ⟨hb.cell rfl, hb.cell rfl, hb.cell rfl, hb.cell rfl, hb.cell rfl⟩
  have HO : Hid (∀ w', Beh w P Q G H a n cap w' → Old w w') := fun _ h => h.old
  generalize overI P x y = z at *
  generalize invI y P = i at *
  clear h4 hr hx hy hy2 hiv hi2
  go_enter Try.func41, Try.ntmps41
  go_wp2_with (first
    | (go_at_call 56; refine (HI.out _ (by first | exact HN.out _ | assumption)).mono ?_; rintro e w1 ⟨rfl, hb⟩; obtain ⟨d0, d1, d2, d3, d4⟩ := HF.out _ hb)
    | (go_at_call 61; refine (HN'.out _ (by assumption)).mono ?_; rintro e w2 ⟨rfl, hb⟩; obtain ⟨d0, d1, d2, d3, d4⟩ := HF.out _ hb)
    | (go_at_call 42; refine (HM.out _ _ (by assumption)).mono ?_; rintro e w3 ⟨rfl, hb⟩))
  go_ret
  exact ⟨rfl, HO.out _ (by assumption)⟩

set_option maxHeartbeats 8000000 in
theorem gagain_any (P Q G H : Int) (a : Option Addr) (n cap : Nat) (y u v r : Int) (w : World) (h4 : Four P Q G H) (hr : Righ P Q G) (hy : U64 y) (hu : U64 u) (hv : U64 v) (hrr : U64 r) :
    Calls Try.prog 58 #[gv P Q G H a n cap, .int .u64 y, pv u v, .int .u64 r] w fun e w' => e = .returned (pv (mulI u (expI P Q G r) P) (mulI v (expI P Q y r) P)) ∧ Old w w' := by
  have HE : Hid (∀ x e wx, U64 x → U64 e → Lain w [(gc P Q G H a n cap, 25), (pc u v, 27), (pc 0 0, 27)] wx → Calls Try.prog 43 #[gv P Q G H a n cap, .int .u64 x, .int .u64 e] wx fun r w' => r = .returned (.int .u64 (expI P Q x e)) ∧ Lain w [(gc P Q G H a n cap, 25), (pc u v, 27), (pc 0 0, 27)] w') :=
    fun x e wx hx he hb => (gexp_any P Q G H x e a n cap wx h4 hr hx.1 hx.2 he.1 he.2).mono fun r w' ⟨h, k⟩ => ⟨h, hb.then k⟩
  have HP : Hid (∀ x y t wx, U64 x → U64 y → Lain w [(gc P Q G H a n cap, 25), (pc u v, 27), (pc 0 0, 27)] wx → Calls Try.prog 42 #[gv P Q G H a n cap, .slice (some ⟨wx.heap.size, 0, none⟩) 2 2] (wx.alloc (.cells #[.int .u64 x, .int .u64 y] t)) fun r w' => r = .returned (.int .u64 (mulI x y P)) ∧ Lain w [(gc P Q G H a n cap, 25), (pc u v, 27), (pc 0 0, 27)] w') :=
    fun x y t wx hx hy hb => (gprod_any P Q G H a n cap _ 2 2 _ _ h4 hr (by decide) (by decide) (facs_two wx x y t hx hy)).mono fun r w' ⟨h, k⟩ => ⟨by rw [h, prod5 hr], hb.then (((Old.refl _).alloc _).trans k)⟩
  have HD : Hid (∀ wx, Lain w [(gc P Q G H a n cap, 25), (pc u v, 27), (pc 0 0, 27)] wx → Lain w [(gc P Q G H a n cap, 25), (pc u v, 27), (pc 0 0, 27)] wx.drew) := fun _ h => h.then (Old.refl _).drew
  have HO : Hid (∀ wx, Lain w [(gc P Q G H a n cap, 25), (pc u v, 27), (pc 0 0, 27)] wx → Old w wx) := fun _ h => h.old
  have hG : U64 G := ⟨h4.g0, h4.g1⟩
  have HF : Hid (∀ w', Lain w [(gc P Q G H a n cap, 25), (pc u v, 27), (pc 0 0, 27)] w' → w'.cell? ⟨w.heap.size, 0, none⟩ = some (.int .u64 P) ∧ w'.cell? ⟨w.heap.size, 1, none⟩ = some (.int .u64 Q) ∧ w'.cell? ⟨w.heap.size, 2, none⟩ = some (.int .u64 G) ∧ w'.cell? ⟨w.heap.size, 3, none⟩ = some (.int .u64 H) ∧ w'.cell? ⟨w.heap.size, 4, none⟩ = some (.slice a n cap) ∧ w'.cell? ⟨w.heap.size + 1, 0, none⟩ = some (.int .u64 u) ∧ w'.cell? ⟨w.heap.size + 1, 1, none⟩ = some (.int .u64 v)) := fun _ h => ⟨h.cell 0 0 (by simp) rfl, h.cell 0 1 (by simp) rfl, h.cell 0 2 (by simp) rfl, h.cell 0 3 (by simp) rfl, h.cell 0 4 (by simp) rfl, h.cell 1 0 (by simp) rfl, h.cell 1 1 (by simp) rfl⟩
  have HG : Hid (∀ w0, Lain w [(gc P Q G H a n cap, 25), (pc u v, 27), (pc 0 0, 27)] w0 → ∀ x y, (fun w' => w'.cell? ⟨w.heap.size, 0, none⟩ = some (.int .u64 P) ∧ w'.cell? ⟨w.heap.size, 1, none⟩ = some (.int .u64 Q) ∧ w'.cell? ⟨w.heap.size, 2, none⟩ = some (.int .u64 G) ∧ w'.cell? ⟨w.heap.size, 3, none⟩ = some (.int .u64 H) ∧ w'.cell? ⟨w.heap.size, 4, none⟩ = some (.slice a n cap) ∧ w'.cell? ⟨w.heap.size + 1, 0, none⟩ = some (.int .u64 u) ∧ w'.cell? ⟨w.heap.size + 1, 1, none⟩ = some (.int .u64 v)) ((w0.setCell ⟨w.heap.size + 1 + 1, 0, none⟩ x).setCell ⟨w.heap.size + 1 + 1, 1, none⟩ y)) := fun w0 h x y => by
    obtain ⟨c0, c1, c2, c3, c4, c5, c6⟩ := HF.out _ h
    exact ⟨cell_far (by omega) (cell_far (by omega) c0), cell_far (by omega) (cell_far (by omega) c1), cell_far (by omega) (cell_far (by omega) c2), cell_far (by omega) (cell_far (by omega) c3), cell_far (by omega) (cell_far (by omega) c4), cell_far (by omega) (cell_far (by omega) c5), cell_far (by omega) (cell_far (by omega) c6)⟩
  have HZ := lain3 w (gc P Q G H a n cap) (pc u v) (pc 0 0) 25 27 27
  clear h4 hr
  go_enter Try.func58, Try.ntmps58
  go_upto_region 1 with fail
  generalize hW : ((w.alloc (.cells (gc P Q G H a n cap) 25)).alloc (.cells (pc u v) 27)).alloc (.cells (pc 0 0) 27) = W at *
  clear hW
  obtain ⟨d0, d1, d2, d3, d4, e0, e1⟩ := HF.out _ HZ
  go_region_held3 (fun w' => w'.cell? ⟨w.heap.size, 0, none⟩ = some (.int .u64 P) ∧ w'.cell? ⟨w.heap.size, 1, none⟩ = some (.int .u64 Q) ∧ w'.cell? ⟨w.heap.size, 2, none⟩ = some (.int .u64 G) ∧ w'.cell? ⟨w.heap.size, 3, none⟩ = some (.int .u64 H) ∧ w'.cell? ⟨w.heap.size, 4, none⟩ = some (.slice a n cap) ∧ w'.cell? ⟨w.heap.size + 1, 0, none⟩ = some (.int .u64 u) ∧ w'.cell? ⟨w.heap.size + 1, 1, none⟩ = some (.int .u64 v)) (first | exact HF.out _ (by assumption) | (go_keep; done) | (and_intros <;> exact cell_far (by omega) (cell_far (by omega) (by assumption)))) (first
    | (go_at_call 43; refine (HE.out _ _ _ (by assumption) (by assumption) (by first | assumption | exact HD.out _ (by assumption))).mono ?_; rintro e w1 ⟨rfl, hb⟩)
    | (go_at_call 42; refine (HP.out _ _ _ _ (by assumption) (by first | assumption | exact u64_exp _ _ _ _) (by first | assumption | exact HD.out _ (by assumption))).mono ?_; rintro e w2 ⟨rfl, hb⟩; have hrow := hb.row 2 (by simp); have q0 : _ = some (Value.int .u64 0) := cell_of_row _ _ 0 _ _ (0, 0) hrow; have q1 : _ = some (Value.int .u64 0) := cell_of_row _ _ 1 _ _ (0, 0) hrow; have f0 := row_frozen hrow 0; have f1 := row_frozen hrow 1; clear hrow; obtain ⟨s0, s1, s2, s3, s4, s5, s6⟩ := HF.out _ hb))
  have HL : Hid (Old w w2) := hb.old
  have HR : Hid (w2.heap[w.heap.size + 2]? = some (.cells #[.int .u64 0, .int .u64 0] 27 (0, 0))) := hb.row 2 (by simp)
  go_wp2_with fail
  exact bodyPost_ret (result5 (b := w.heap.size + 2) rfl rfl (load_two HR.out Try.underlying27 info_pair)) rfl ⟨rfl, (HL.out.setCell (by simp; omega) _).setCell (by simp; omega) _⟩

end Go.Proofs.Ytmmicbdjafolpae
