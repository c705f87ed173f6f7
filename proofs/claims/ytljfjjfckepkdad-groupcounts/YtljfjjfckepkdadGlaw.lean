/-
  The statements' walks (layer 4): GroupRight, GroupLays.
-/
import Derived.Test.YtljfjjfckepkdadGawk
import Derived.Deep.RegionHeld3
namespace Go.Proofs.Ytljfjjfckepkdad
open Go.RowKit

theorem Beh.drew {w w' : World} {P Q G H : Int} {a : Option Addr} {n cap : Nat} (h : Beh w P Q G H a n cap w') : Beh w P Q G H a n cap w'.drew := h.then (Old.refl _).drew
/-- What the statements call, behind a group that was laid out. -/
theorem law_calls (P Q G H : Int) (a : Option Addr) (n cap : Nat) (N A : Nat → Int) (FA : Nat → Option Addr) (L C : Nat → Nat) (F : Nat → Nat → Int) (w : World) (h4 : Four P Q G H) (hcap : n ≤ cap) (hin : RowsIn w a n N A FA L C F) :
    Hid (∀ wx, Beh w P Q G H a n cap wx → Calls Try.prog 4 #[] wx fun e w' => e = .returned (.bool true) ∧ Beh w P Q G H a n cap w') ∧
    Hid (∀ wx, Beh w P Q G H a n cap wx → Calls Try.prog 5 #[gv P Q G H a n cap] wx fun e w' => e = .returned (.bool (fewB L n)) ∧ Beh w P Q G H a n cap w') ∧
    Hid (n ≤ 80 → ∀ wx, Beh w P Q G H a n cap wx → Calls Try.prog 6 #[gv P Q G H a n cap] wx fun e w' => e = .returned (.bool (rightI P Q G H N A F L n)) ∧ Beh w P Q G H a n cap w') ∧
    Hid (Righ P Q G → ∀ x wx, 0 ≤ x → x ≤ 18446744073709551615 → Beh w P Q G H a n cap wx → Calls Try.prog 7 #[gv P Q G H a n cap, .int .u64 x] wx fun e w' => e = .returned (.bool (inI P Q x)) ∧ Beh w P Q G H a n cap w') ∧
    Hid (Righ P Q G → ∀ k wx, 0 ≤ k → k ≤ 18446744073709551615 → Beh w P Q G H a n cap wx → Calls Try.prog 10 #[gv P Q G H a n cap, .int .u64 k] wx fun e w' => e = .returned (.tuple #[.int .u64 (layI P Q k), .bool (layB Q k)]) ∧ Beh w P Q G H a n cap w') ∧
    Hid (Righ P Q G → ∀ x wx, 0 ≤ x → x ≤ 18446744073709551615 → Beh w P Q G H a n cap wx → Calls Try.prog 11 #[gv P Q G H a n cap, .int .u64 x] wx fun e w' => e = .returned (.tuple #[.int .u64 (backI P Q x), .bool (inI P Q x)]) ∧ Beh w P Q G H a n cap w') ∧
    Hid (∀ wx, Beh w P Q G H a n cap wx → wx.cell? ⟨w.heap.size, 0, none⟩ = some (.int .u64 P) ∧ wx.cell? ⟨w.heap.size, 1, none⟩ = some (.int .u64 Q) ∧ wx.cell? ⟨w.heap.size, 2, none⟩ = some (.int .u64 G) ∧ wx.cell? ⟨w.heap.size, 3, none⟩ = some (.int .u64 H) ∧ wx.cell? ⟨w.heap.size, 4, none⟩ = some (.slice a n cap)) ∧
    Hid (∀ t, Beh w P Q G H a n cap (w.alloc (go P Q G H a n cap t))) ∧ Hid (∀ wx, Beh w P Q G H a n cap wx → Old w wx) := by
  refine ⟨fun wx hb => ?_, fun wx hb => ?_, fun hn wx hb => ?_, fun hr x wx x0 x1 hb => ?_, fun hr x wx x0 x1 hb => ?_, fun hr x wx x0 x1 hb => ?_, fun wx hb => ⟨hb.cell rfl, hb.cell rfl, hb.cell rfl, hb.cell rfl, hb.cell rfl⟩, fun t => Beh.new .., fun wx hb => hb.old⟩
  · exact (awake4_any wx).mono fun e w' ⟨h, k⟩ => ⟨h, hb.then k⟩
  · exact (few_any P Q G H a n cap N A FA L C F wx (hin.old hb.old)).mono fun e w' ⟨h, k⟩ => ⟨h, hb.then (Old.ofBelow k)⟩
  · exact (gright_any P Q G H a n cap N A FA L C F wx h4 hcap hn (hin.old hb.old)).mono fun e w' ⟨h, k⟩ => ⟨h, hb.then k⟩
  · exact (gin_any P Q G H x a n cap wx h4 hr x0 x1).mono fun e w' ⟨h, k⟩ => ⟨h, hb.then k⟩
  · exact (glay_any P Q G H x a n cap wx h4 hr x0 x1).mono fun e w' ⟨h, k⟩ => ⟨h, hb.then k⟩
  · exact (gback_any P Q G H x a n cap wx h4 hr x0 x1).mono fun e w' ⟨h, k⟩ => ⟨h, hb.then k⟩
end Go.Proofs.Ytljfjjfckepkdad
