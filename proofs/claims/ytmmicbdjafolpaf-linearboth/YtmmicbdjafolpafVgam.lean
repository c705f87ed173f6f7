/-
  The contracts of the program's functions of layer 5, and of its quotient (layer 4).
-/
import Derived.Test.YtmmicbdjafolpafVref3
import Derived.Test.YtmmicbdjafolpafInvs
namespace Go.Proofs.Ytmmicbdjafolpaf
open Go.RowKit

theorem gover_any (P Q G H : Int) (a : Option Addr) (n cap : Nat) (x y : Int) (w : World) (h4 : Four P Q G H) (hr : Righ P Q G) (hx : U64 x) (hy : inI P Q y = true) :
    Calls Try.prog 27 #[gv P Q G H a n cap, .int .u64 x, .int .u64 y] w fun e w' => e = .returned (.int .u64 (overI P x y)) ∧ Old w w' := by
  have hy2 := inI_bd5 hr hy
  have hiv := hr.inv hy
  have hi2 := inI_bd5 hr hiv.2.1
  have HI : Hid (∀ wx, Beh w P Q G H a n cap wx → Calls Try.prog 23 #[.int .u64 y, .int .u64 P] wx fun e w' => e = .returned (.tuple #[.int .u64 (invI y P), .bool true]) ∧ Beh w P Q G H a n cap w') :=
    fun wx hb => (inv_any y P wx hy2.1 hy2.2).mono fun e w' ⟨h, k⟩ => ⟨by rw [h, hiv.1], hb.then ((Old.refl _).draws k)⟩
  have HN' : Hid (∀ wx, Beh w P Q G H a n cap wx → Calls Try.prog 41 #[gv P Q G H a n cap, .int .u64 (invI y P)] wx fun e w' => e = .returned (.bool true) ∧ Beh w P Q G H a n cap w') :=
    fun wx hb => (gin0 P Q G H (invI y P) a n cap wx h4.q0 h4.q1 hi2.2).mono fun e w' ⟨h, k⟩ => ⟨by rw [h, hiv.2.1], hb.then k⟩
  have HM : Hid (∀ wx t, Beh w P Q G H a n cap wx → Calls Try.prog 40 #[gv P Q G H a n cap, .slice (some ⟨wx.heap.size, 0, none⟩) 2 2] (wx.alloc (.cells #[.int .u64 x, .int .u64 (invI y P)] t)) fun e w' => e = .returned (.int .u64 (overI P x y)) ∧ Beh w P Q G H a n cap w') :=
    fun wx t hb => (gprod_any P Q G H a n cap _ 2 2 _ _ h4 hr (by decide) (by decide) (facs_two wx x (invI y P) t hx hi2)).mono fun e w' ⟨h, k⟩ => ⟨by rw [h, prod5 hr]; rfl, hb.then (((Old.refl _).alloc _).trans k)⟩
  have HN : Hid (∀ t, Beh w P Q G H a n cap (w.alloc (go P Q G H a n cap t))) := fun t => Beh.new ..
  have HF : Hid (∀ wx, Beh w P Q G H a n cap wx → wx.cell? ⟨w.heap.size, 0, none⟩ = some (.int .u64 P) ∧ wx.cell? ⟨w.heap.size, 1, none⟩ = some (.int .u64 Q) ∧ wx.cell? ⟨w.heap.size, 2, none⟩ = some (.int .u64 G) ∧ wx.cell? ⟨w.heap.size, 3, none⟩ = some (.int .u64 H) ∧ wx.cell? ⟨w.heap.size, 4, none⟩ = some (.slice a n cap)) := fun _ hb => ⟨hb.cell rfl, hb.cell rfl, hb.cell rfl, hb.cell rfl, hb.cell rfl⟩
  have HO : Hid (∀ w', Beh w P Q G H a n cap w' → Old w w') := fun _ h => h.old
  generalize overI P x y = z at *
  generalize invI y P = i at *
  clear h4 hr hx hy hy2 hiv hi2
  go_enter Try.func27, Try.ntmps27
  go_wp2_with (first
    | (go_at_call 23; refine (HI.out _ (by first | exact HN.out _ | assumption)).mono ?_; rintro e w1 ⟨rfl, hb⟩; obtain ⟨d0, d1, d2, d3, d4⟩ := HF.out _ hb)
    | (go_at_call 41; refine (HN'.out _ (by assumption)).mono ?_; rintro e w2 ⟨rfl, hb⟩; obtain ⟨d0, d1, d2, d3, d4⟩ := HF.out _ hb)
    | (go_at_call 40; refine (HM.out _ _ (by assumption)).mono ?_; rintro e w3 ⟨rfl, hb⟩))
  go_ret
  exact ⟨rfl, HO.out _ (by assumption)⟩

end Go.Proofs.Ytmmicbdjafolpaf
