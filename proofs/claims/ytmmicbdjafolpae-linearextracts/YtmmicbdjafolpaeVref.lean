/-
  The contracts of the document's functions of layer 5, and of its quotient (layer 4).
-/
import Derived.Test.YtmmicbdjafolpaeVwor
namespace Go.Proofs.Ytmmicbdjafolpae
open Go.RowKit

theorem inI_bd5 {P Q G y : Int} (h : Righ P Q G) (hy : inI P Q y = true) : 0 ≤ y ∧ y ≤ 18446744073709551615 := by
  have := h.lt hy; have := h.two; have := h.q1
  omega

theorem rover_any (P Q G H : Int) (a : Option Addr) (n cap : Nat) (x y : Int) (w : World) (hx : U64 x) (hy : U64 y) :
    Calls Try.prog 50 #[gv P Q G H a n cap, .int .u64 x, .int .u64 y] w fun e w' => e = .returned (.int .u64 (overI P x y)) ∧ Old w w' := by
  have HI : Hid (∀ wx, Beh w P Q G H a n cap wx → Calls Try.prog 57 #[.int .u64 y, .int .u64 P] wx fun e w' => e = .returned (.tuple #[.int .u64 (invI y P), .bool (invB y P)]) ∧ Beh w P Q G H a n cap w') :=
    fun wx hb => (rinv_any y P wx hy.1 hy.2).mono fun e w' ⟨h, k⟩ => ⟨h, hb.then ((Old.refl _).draws k)⟩
  have HM : Hid (∀ wx, Beh w P Q G H a n cap wx → Calls Try.prog 45 #[.int .u64 x, .int .u64 (invI y P), .int .u64 P] wx fun e w' => e = .returned (.int .u64 (overI P x y)) ∧ Beh w P Q G H a n cap w') :=
    fun wx hb => (rmul_any x (invI y P) P wx hx.1 hx.2 (by have := invI_bd y P; omega) (by have := invI_bd y P; omega)).mono fun e w' ⟨h, k⟩ => ⟨h, hb.then ((Old.refl _).draws k)⟩
  have HN : Hid (∀ t, Beh w P Q G H a n cap (w.alloc (go P Q G H a n cap t))) := fun t => Beh.new ..
  have HF : Hid (∀ w', Beh w P Q G H a n cap w' → w'.cell? ⟨w.heap.size, 0, none⟩ = some (.int .u64 P)) := fun _ h => h.cell rfl
  have HO : Hid (∀ w', Beh w P Q G H a n cap w' → Old w w') := fun _ h => h.old
  generalize overI P x y = z at *
  generalize invI y P = i at *
  generalize invB y P = ib at *
  clear hx hy
  go_enter Try.func50, Try.ntmps50
  go_wp2_with (first
    | (go_at_call 57; refine (HI.out _ (by first | exact HN.out _ | assumption)).mono ?_; rintro e w1 ⟨rfl, hb1⟩; have d0 := HF.out _ hb1)
    | (go_at_call 45; refine (HM.out _ (by first | exact HN.out _ | assumption)).mono ?_; rintro e w2 ⟨rfl, hb2⟩))
  go_ret
  exact ⟨rfl, HO.out _ (by assumption)⟩

end Go.Proofs.Ytmmicbdjafolpae
