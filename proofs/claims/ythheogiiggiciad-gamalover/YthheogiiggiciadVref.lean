/-
  The contracts of the document's functions of layer 5, and of its quotient (layer 4).
-/
import Derived.Test.YthheogiiggiciadVwor
namespace Go.Proofs.Ythheogiiggiciad
open Go.RowKit

theorem inI_bd5 {P Q G y : Int} (h : Righ P Q G) (hy : inI P Q y = true) : 0 ≤ y ∧ y ≤ 18446744073709551615 := by
  have := h.lt hy; have := h.two; have := h.q1
  omega

theorem rover_any (P Q G H : Int) (a : Option Addr) (n cap : Nat) (x y : Int) (w : World) (hx : U64 x) (hy : U64 y) :
    Calls Try.prog 49 #[gv P Q G H a n cap, .int .u64 x, .int .u64 y] w fun e w' => e = .returned (.int .u64 (overI P x y)) ∧ Old w w' := by
  have HI : Hid (∀ wx, Beh w P Q G H a n cap wx → Calls Try.prog 58 #[.int .u64 y, .int .u64 P] wx fun e w' => e = .returned (.tuple #[.int .u64 (invI y P), .bool (invB y P)]) ∧ Beh w P Q G H a n cap w') :=
    fun wx hb => (rinv_any y P wx hy.1 hy.2).mono fun e w' ⟨h, k⟩ => ⟨h, hb.then ((Old.refl _).draws k)⟩
  have HM : Hid (∀ wx, Beh w P Q G H a n cap wx → Calls Try.prog 56 #[.int .u64 x, .int .u64 (invI y P), .int .u64 P] wx fun e w' => e = .returned (.int .u64 (overI P x y)) ∧ Beh w P Q G H a n cap w') :=
    fun wx hb => (rmul_any x (invI y P) P wx hx.1 hx.2 (by have := invI_bd y P; omega) (by have := invI_bd y P; omega)).mono fun e w' ⟨h, k⟩ => ⟨h, hb.then ((Old.refl _).draws k)⟩
  have HN : Hid (∀ t, Beh w P Q G H a n cap (w.alloc (go P Q G H a n cap t))) := fun t => Beh.new ..
  have HF : Hid (∀ w', Beh w P Q G H a n cap w' → w'.cell? ⟨w.heap.size, 0, none⟩ = some (.int .u64 P)) := fun _ h => h.cell rfl
  have HO : Hid (∀ w', Beh w P Q G H a n cap w' → Old w w') := fun _ h => h.old
  generalize overI P x y = z at *
  generalize invI y P = i at *
  generalize invB y P = ib at *
  clear hx hy
  go_enter Try.func49, Try.ntmps49
  go_wp2_with (first
    | (go_at_call 58; refine (HI.out _ (by first | exact HN.out _ | assumption)).mono ?_; rintro e w1 ⟨rfl, hb1⟩; have d0 := HF.out _ hb1)
    | (go_at_call 56; refine (HM.out _ (by first | exact HN.out _ | assumption)).mono ?_; rintro e w2 ⟨rfl, hb2⟩))
  go_ret
  exact ⟨rfl, HO.out _ (by assumption)⟩

set_option maxHeartbeats 4000000 in
theorem ragain_any (P Q G H : Int) (a : Option Addr) (n cap : Nat) (y u v r : Int) (w : World) (h4 : Four P Q G H) (hr : Righ P Q G) (hy : U64 y) (hu : U64 u) (hv : U64 v) (hrr : U64 r) :
    Calls Try.prog 22 #[gv P Q G H a n cap, .int .u64 y, pv u v, .int .u64 r] w fun e w' => e = .returned (pv (mulI u (expI P Q G r) P) (mulI v (expI P Q y r) P)) ∧ Old w w' := by
  have HE : Hid (∀ x e wx, U64 x → U64 e → Lain w [(gc P Q G H a n cap, 25), (pc u v, 32), (pc 0 0, 32)] wx → Calls Try.prog 46 #[gv P Q G H a n cap, .int .u64 x, .int .u64 e] wx fun r w' => r = .returned (.int .u64 (expI P Q x e)) ∧ Lain w [(gc P Q G H a n cap, 25), (pc u v, 32), (pc 0 0, 32)] w') :=
    fun x e wx hx he hb => (rexp_any P Q G H x e a n cap wx h4.q1 hx.1 hx.2 he.1 he.2).mono fun r w' ⟨h, k⟩ => ⟨h, hb.then k⟩
  have HP : Hid (∀ x y t wx, U64 x → U64 y → Lain w [(gc P Q G H a n cap, 25), (pc u v, 32), (pc 0 0, 32)] wx → Calls Try.prog 47 #[gv P Q G H a n cap, .slice (some ⟨wx.heap.size, 0, none⟩) 2 2] (wx.alloc (.cells #[.int .u64 x, .int .u64 y] t)) fun r w' => r = .returned (.int .u64 (mulI x y P)) ∧ Lain w [(gc P Q G H a n cap, 25), (pc u v, 32), (pc 0 0, 32)] w') :=
    fun x y t wx hx hy hb => (rprod_any P Q G H a n cap _ 2 2 _ _ (by decide) (facs_two wx x y t hx hy)).mono fun r w' ⟨h, k⟩ => ⟨by rw [h, prod5 hr], hb.then (((Old.refl _).alloc _).trans k)⟩
  have HD : Hid (∀ wx, Lain w [(gc P Q G H a n cap, 25), (pc u v, 32), (pc 0 0, 32)] wx → Lain w [(gc P Q G H a n cap, 25), (pc u v, 32), (pc 0 0, 32)] wx.drew) := fun _ h => h.then (Old.refl _).drew
  have HO : Hid (∀ wx, Lain w [(gc P Q G H a n cap, 25), (pc u v, 32), (pc 0 0, 32)] wx → Old w wx) := fun _ h => h.old
  have hG : U64 G := ⟨h4.g0, h4.g1⟩
  have HF : Hid (∀ w', Lain w [(gc P Q G H a n cap, 25), (pc u v, 32), (pc 0 0, 32)] w' → w'.cell? ⟨w.heap.size, 0, none⟩ = some (.int .u64 P) ∧ w'.cell? ⟨w.heap.size, 1, none⟩ = some (.int .u64 Q) ∧ w'.cell? ⟨w.heap.size, 2, none⟩ = some (.int .u64 G) ∧ w'.cell? ⟨w.heap.size, 3, none⟩ = some (.int .u64 H) ∧ w'.cell? ⟨w.heap.size, 4, none⟩ = some (.slice a n cap) ∧ w'.cell? ⟨w.heap.size + 1, 0, none⟩ = some (.int .u64 u) ∧ w'.cell? ⟨w.heap.size + 1, 1, none⟩ = some (.int .u64 v)) := fun _ h => ⟨h.cell 0 0 (by simp) rfl, h.cell 0 1 (by simp) rfl, h.cell 0 2 (by simp) rfl, h.cell 0 3 (by simp) rfl, h.cell 0 4 (by simp) rfl, h.cell 1 0 (by simp) rfl, h.cell 1 1 (by simp) rfl⟩
  have HZ := lain3 w (gc P Q G H a n cap) (pc u v) (pc 0 0) 25 32 32
  clear h4 hr
  go_enter Try.func22, Try.ntmps22
  go_upto_region 1 with fail
  generalize hW : ((w.alloc (.cells (gc P Q G H a n cap) 25)).alloc (.cells (pc u v) 32)).alloc (.cells (pc 0 0) 32) = W at *
  clear hW
  obtain ⟨d0, d1, d2, d3, d4, e0, e1⟩ := HF.out _ HZ
  go_region_held3 (fun w' => w'.cell? ⟨w.heap.size, 0, none⟩ = some (.int .u64 P) ∧ w'.cell? ⟨w.heap.size, 1, none⟩ = some (.int .u64 Q) ∧ w'.cell? ⟨w.heap.size, 2, none⟩ = some (.int .u64 G) ∧ w'.cell? ⟨w.heap.size, 3, none⟩ = some (.int .u64 H) ∧ w'.cell? ⟨w.heap.size, 4, none⟩ = some (.slice a n cap) ∧ w'.cell? ⟨w.heap.size + 1, 0, none⟩ = some (.int .u64 u) ∧ w'.cell? ⟨w.heap.size + 1, 1, none⟩ = some (.int .u64 v)) (first | go_keep | exact HF.out _ (by assumption)) (first
    | (go_at_call 46; refine (HE.out _ _ _ (by assumption) (by assumption) (by first | assumption | exact HD.out _ (by assumption))).mono ?_; rintro e w1 ⟨rfl, hb⟩)
    | (go_at_call 47; refine (HP.out _ _ _ _ (by assumption) (by first | assumption | exact u64_exp _ _ _ _) (by first | assumption | exact HD.out _ (by assumption))).mono ?_; rintro e w2 ⟨rfl, hb⟩))
  clear d0 d1 d2 d3 d4 e0 e1
  obtain ⟨d0, d1, d2, d3, d4, e0, e1⟩ := HF.out _ hb
  go_upto_region 2 with fail
  go_region_held3 (fun w' => w'.cell? ⟨w.heap.size, 0, none⟩ = some (.int .u64 P) ∧ w'.cell? ⟨w.heap.size, 1, none⟩ = some (.int .u64 Q) ∧ w'.cell? ⟨w.heap.size, 2, none⟩ = some (.int .u64 G) ∧ w'.cell? ⟨w.heap.size, 3, none⟩ = some (.int .u64 H) ∧ w'.cell? ⟨w.heap.size, 4, none⟩ = some (.slice a n cap) ∧ w'.cell? ⟨w.heap.size + 1, 0, none⟩ = some (.int .u64 u) ∧ w'.cell? ⟨w.heap.size + 1, 1, none⟩ = some (.int .u64 v)) (first | go_keep | exact HF.out _ (by assumption)) (first
    | (go_at_call 46; refine (HE.out _ _ _ (by assumption) (by assumption) (by first | assumption | exact HD.out _ (by assumption))).mono ?_; rintro e w3 ⟨rfl, hb⟩)
    | (go_at_call 47; refine (HP.out _ _ _ _ (by assumption) (by first | assumption | exact u64_exp _ _ _ _) (by first | assumption | exact HD.out _ (by assumption))).mono ?_; rintro e w4 ⟨rfl, hb⟩))
  have hrow := hb.row 2 (by simp)
  have q0 := cell_of_row _ _ 0 _ _ (0, 0) hrow
  have q1 := cell_of_row _ _ 1 _ _ (0, 0) hrow
  have f0 := row_frozen hrow 0
  have f1 := row_frozen hrow 1
  have HL : Hid (Old w w4) := hb.old
  have HR : Hid (w4.heap[w.heap.size + 2]? = some (.cells #[.int .u64 0, .int .u64 0] 32 (0, 0))) := hrow
  simp at q0 q1
  clear hrow
  go_wp2_with fail
  exact bodyPost_ret (result5 (b := w.heap.size + 2) rfl rfl (load_two HR.out Try.underlying32 info_pair)) rfl ⟨rfl, (HL.out.setCell (by simp; omega) _).setCell (by simp; omega) _⟩

end Go.Proofs.Ythheogiiggiciad
