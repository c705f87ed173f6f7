/-
  The document's Prod (layer 4).
-/
import Derived.Test.YthheogiiggiciadGfew
namespace Go.Proofs.Ythheogiiggiciad
open Go.RowKit

/-- A product. -/
def prodI (P : Int) (F : Nat → Int) : Nat → Int
  | 0 => 1
  | k + 1 => mulI (prodI P F k) (F k) P
theorem prodI_bd (P : Int) (F : Nat → Int) : ∀ k, 0 ≤ prodI P F k ∧ prodI P F k ≤ 18446744073709551615
  | 0 => by show (0 : Int) ≤ 1 ∧ (1 : Int) ≤ _; omega
  | k + 1 => by
    have := mulI_bd (prodI P F k) (F k) P
    show 0 ≤ mulI _ _ _ ∧ mulI _ _ _ ≤ _
    omega

set_option maxHeartbeats 1000000 in
theorem rprod_any (P Q G H : Int) (a : Option Addr) (n cap : Nat) (b : Option Addr) (len c : Nat) (F : Nat → Int) (w : World) (hl : len ≤ 1152921504606846976) (hin : FacsIn w b len F) :
    Calls Try.prog 47 #[gv P Q G H a n cap, .slice b len c] w fun e w' => e = .returned (.int .u64 (prodI P F len)) ∧ Old w w' := by
  have HI : Hid (FacsIn w b len F) := hin
  clear hin
  go_enter Try.func47, Try.ntmps47
  go_wp2_with fail
  go_loopw [5, 6] (fun nv iv wx => ∃ i : Nat, nv = .int .u64 (prodI P F i) ∧ iv = .int .i64 (i : Int) ∧ i ≤ len ∧ Beh w P Q G H a n cap wx) (fun _ iv _ => len - (intOf iv).toNat)
  case atStart => exact ⟨0, rfl, rfl, Nat.zero_le _, Beh.new ..⟩
  case round =>
    obtain ⟨i, rfl, rfl, hi, hbeh⟩ := hrel
    by_cases hlt : i < len
    · rcases HI.out.old hbeh.old with h0 | ⟨bb, off, rfl, hb, hr⟩
      · omega
      obtain ⟨c0, f0, f1⟩ := hr i hlt
      clear hr
      obtain ⟨m0, m1⟩ := prodI_bd P F i
      have c1 := hbeh.cell (j := 0) rfl
      have HS : Hid (prodI P F (i + 1) = mulI (prodI P F i) (F i) P) := rfl
      have HB : Hid (Beh w P Q G H a n cap wr) := hbeh
      clear hbeh
      generalize prodI P F i = m at *
      go_wp2_with fail
      go_quiet ((go_at_call 56; exact Calls.quiet_of (rmul_any _ _ _ _ m0 m1 f0 f1)))
      go_wp2_with fail
      go_roundw
      case rel => exact ⟨i + 1, by rw [HS.out], idx_next i, by omega, HB.out.then ((Old.refl _).drewN _)⟩
      case measure => simp [intOf]; omega
    · have he : i = len := by omega
      subst he
      have HB : Hid (Beh w P Q G H a n cap wr) := hbeh
      clear hbeh
      go_wp2_with fail
      go_ret
      exact ⟨rfl, HB.out.old⟩

end Go.Proofs.Ythheogiiggiciad
