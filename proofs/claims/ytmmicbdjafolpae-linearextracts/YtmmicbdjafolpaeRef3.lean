/-
  The contracts of the document's Holds and Proved (layer 2) at this seat.
-/
import Derived.Test.YtmmicbdjafolpaeRef2
namespace Go.Proofs.Ytmmicbdjafolpae
open Go.RowKit

set_option maxHeartbeats 1000000 in
theorem rholds_any (a : Option Addr) (n cap : Nat) (N A : Nat → Int) (FA : Nat → Option Addr) (L C : Nat → Nat) (F : Nat → Nat → Int) (w : World) (hn : n ≤ 80) (hin : RowsIn w a n N A FA L C F) :
    Calls Try.prog 68 #[.slice a n cap] w fun e w' => e = .returned (.bool (holdsB N A F L n)) ∧ Below w.heap.size w w' := by
  have HI : Hid (RowsIn w a n N A FA L C F) := hin
  clear hin
  by_cases h64 : 64 < n
  · have HN : Hid (holdsB N A F L n = false) := no_of fun hc => by have := (holdsB_iff.1 hc).1; omega
    go_enter Try.func68, Try.ntmps68
    go_wp2_with fail
    go_ret
    exact ⟨ret_bool HN.out.symm, Below.refl _ _⟩
  go_enter Try.func68, Try.ntmps68
  go_wp2_with fail
  go_loopw [3] (fun iv wx => ∃ i : Nat, iv = .int .i64 (i : Int) ∧ i ≤ n ∧ Below w.heap.size w wx ∧ Hid (∀ j, j < i → rowB (N j) (A j) (F j) (L j) N j = true)) (fun iv _ => n - (intOf iv).toNat)
  case atStart => exact ⟨0, rfl, Nat.zero_le _, Below.refl _ _, fun j hj => by omega⟩
  case round =>
    obtain ⟨i, rfl, hi, hbel, HJ⟩ := hrel
    by_cases hlt : i < n
    · have HK : Hid (RowsIn wr a n N A FA L C F) := HI.out.below hbel
      cases hR : rowB (N i) (A i) (F i) (L i) N i
      · have HN : Hid (holdsB N A F L n = false) := no_of fun hc => by
          have := (holdsB_iff.1 hc).2 i hlt
          rw [hR] at this
          cases this
        go_wp2_with (go_at_call 71; refine (rrow_any i _ _ _ N A FA L C F _ hlt hn (holds_three HJ.out) HK.out).mono ?_; rintro e w' ⟨rfl, hb2⟩)
        go_ret
        exact ⟨ret_bool HN.out.symm, below_then hbel hb2⟩
      · have HM : Hid (rowB (N i) (A i) (F i) (L i) N i = true) := hR
        go_wp2_with (go_at_call 71; refine (rrow_any i _ _ _ N A FA L C F _ hlt hn (holds_three HJ.out) HK.out).mono ?_; rintro e w' ⟨rfl, hb2⟩)
        go_roundw
        case rel => exact ⟨i + 1, idx_next i, by omega, below_then hbel hb2, upto_succ HJ.out HM.out⟩
        case measure => simp [intOf]; omega
    · have he : i = n := by omega
      subst he
      have HN : Hid (holdsB N A F L i = true) := holdsB_iff.2 ⟨by omega, HJ.out⟩
      go_wp2_with fail
      go_ret
      exact ⟨ret_bool HN.out.symm, hbel⟩

set_option maxHeartbeats 1000000 in
theorem rproved_any (x : Int) (a : Option Addr) (n cap : Nat) (N A : Nat → Int) (FA : Nat → Option Addr) (L C : Nat → Nat) (F : Nat → Nat → Int) (w : World) (hn : n ≤ 80) (hin : RowsIn w a n N A FA L C F) :
    Calls Try.prog 59 #[.int .u64 x, .slice a n cap] w fun e w' => e = .returned (.bool (provedB N A F L n x)) ∧ Below w.heap.size w w' := by
  have HI : Hid (RowsIn w a n N A FA L C F) := hin
  clear hin
  have HE : Hid (provedB N A F L n x = (holdsB N A F L n && (x == 2 || aheadB N n x))) := rfl
  cases hh : holdsB N A F L n
  · go_enter Try.func59, Try.ntmps59
    go_wp2_with (go_at_call 68; refine (rholds_any _ _ _ N A FA L C F _ hn HI.out).mono ?_; rintro e w' ⟨rfl, hb⟩)
    go_ret
    exact ⟨ret_bool (by rw [HE.out, hh]; rfl), hb⟩
  by_cases hx : x = 2
  · subst hx
    go_enter Try.func59, Try.ntmps59
    go_wp2_with (go_at_call 68; refine (rholds_any _ _ _ N A FA L C F _ hn HI.out).mono ?_; rintro e w' ⟨rfl, hb⟩)
    go_ret
    exact ⟨ret_bool (by rw [HE.out, hh]; rfl), hb⟩
  · have hxb : (x == 2) = false := by simp [hx]
    go_enter Try.func59, Try.ntmps59
    go_wp2_with (first
      | (go_at_call 68; refine (rholds_any _ _ _ N A FA L C F _ hn HI.out).mono ?_; rintro e w' ⟨rfl, hb⟩)
      | (go_at_call 69; refine (ahead_any _ n _ _ _ N A FA L C F _ (Nat.le_refl _) hn (HI.out.below hb)).mono ?_; rintro e w' ⟨rfl, rfl⟩))
    go_ret
    exact ⟨ret_bool (by rw [HE.out, hh, hxb]; rfl), hb⟩

end Go.Proofs.Ytmmicbdjafolpae
