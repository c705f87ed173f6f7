/-
  The contracts of prime.Holds, Proved and of the statement's small at this seat.
-/
import Derived.Test.YthheogiiggiciadRowh
import Derived.Deep.RegionWith
namespace Go.Proofs.Ythheogiiggiciad
open Go.RowKit

set_option maxHeartbeats 1000000 in
theorem holds_any (a : Option Addr) (n cap : Nat) (N A : Nat → Int) (FA : Nat → Option Addr) (L C : Nat → Nat) (F : Nat → Nat → Int) (w : World) (hcap : n ≤ cap) (hn : n ≤ 80) (hin : RowsIn w a n N A FA L C F) :
    Calls Try.prog 51 #[.slice a n cap] w fun e w' => e = .returned (.bool (holdsB N A F L n)) ∧ Below w.heap.size w w' := by
  have HI : Hid (RowsIn w a n N A FA L C F) := hin
  clear hin
  by_cases h64 : 64 < n
  · have HN : Hid (holdsB N A F L n = false) := no_of fun hc => by have := (holdsB_iff.1 hc).1; omega
    go_enter Try.func51, Try.ntmps51
    go_wp2_with fail
    go_ret
    exact ⟨ret_bool HN.out.symm, Below.refl _ _⟩
  go_enter Try.func51, Try.ntmps51
  go_wp2_with fail
  go_loopw [10] (fun iv wx => ∃ i : Nat, iv = .int .i64 (i : Int) ∧ i ≤ n ∧ Below w.heap.size w wx ∧ Hid (∀ j, j < i → rowB (N j) (A j) (F j) (L j) N j = true)) (fun iv _ => n - (intOf iv).toNat)
  case atStart => exact ⟨0, rfl, Nat.zero_le _, Below.refl _ _, fun j hj => by omega⟩
  case round =>
    obtain ⟨i, rfl, hi, hbel, HJ⟩ := hrel
    by_cases hlt : i < n
    · have HW := HI.out.below hbel
      have HK : Hid (RowsIn wr a n N A FA L C F) := HW
      rcases HW with h0 | ⟨b, off, rfl, hb, hr⟩
      · omega
      have r := hr i hlt
      clear hr
      have HC : Hid (∀ wx, Below wr.heap.size wr wx → Calls Try.prog 61 #[.agg #[.int .u64 (N i), .int .u64 (A i), .slice (FA i) (L i) (C i)], .slice (some ⟨b, off, none⟩) i cap] wx fun e w' => e = .returned (.bool (rowB (N i) (A i) (F i) (L i) N i)) ∧ Below wx.heap.size wx w') :=
        fun wx hx => row_any _ _ _ _ _ _ _ _ _ N A FA L C F wx r.n0 r.n1 r.a0 r.a1 (by omega) (holds_three HJ.out) (r.facs.below hx) ((HK.out.take (by omega)).below hx)
      obtain ⟨c0, c1, c2⟩ := (⟨r.c0, r.c1, r.c2⟩ : _ ∧ _ ∧ _)
      clear r
      cases hR : rowB (N i) (A i) (F i) (L i) N i
      · have HN : Hid (holdsB N A F L n = false) := no_of fun hc => by
          have := (holdsB_iff.1 hc).2 i hlt
          rw [hR] at this
          cases this
        go_wp2_with fail
        go_region_with ((go_at_call 61; refine (HC.out _ ?_).mono ?_; exact (below_new (Below.refl _ _) _).drew; rintro e w' ⟨rfl, hb2⟩))
        all_goals (go_wp2_with fail; go_ret; exact ⟨ret_bool HN.out.symm, below_then hbel (below_then (below_new (Below.refl _ _) _).drew hb2)⟩)
      · have HM : Hid (rowB (N i) (A i) (F i) (L i) N i = true) := hR
        go_wp2_with fail
        go_region_with ((go_at_call 61; refine (HC.out _ ?_).mono ?_; exact (below_new (Below.refl _ _) _).drew; rintro e w' ⟨rfl, hb2⟩))
        all_goals
          go_wp2_with fail
          go_roundw
          case rel => exact ⟨i + 1, idx_next i, by omega, below_then hbel (below_then (below_new (Below.refl _ _) _).drew hb2), upto_succ HJ.out HM.out⟩
          case measure => simp [intOf]; omega
    · have he : i = n := by omega
      subst he
      have HN : Hid (holdsB N A F L i = true) := holdsB_iff.2 ⟨by omega, HJ.out⟩
      go_wp2_with fail
      go_ret
      exact ⟨ret_bool HN.out.symm, hbel⟩

theorem proved_eq (N A : Nat → Int) (F : Nat → Nat → Int) (L : Nat → Nat) (n : Nat) (x : Int) : provedB N A F L n x = (holdsB N A F L n && namedB N n x) := rfl

set_option maxHeartbeats 1000000 in
theorem proved_any (x : Int) (a : Option Addr) (n cap : Nat) (N A : Nat → Int) (FA : Nat → Option Addr) (L C : Nat → Nat) (F : Nat → Nat → Int) (w : World) (x0 : 0 ≤ x) (x1 : x ≤ 18446744073709551615) (hcap : n ≤ cap) (hn : n ≤ 80) (hin : RowsIn w a n N A FA L C F) :
    Calls Try.prog 41 #[.int .u64 x, .slice a n cap] w fun e w' => e = .returned (.bool (provedB N A F L n x)) ∧ Below w.heap.size w w' := by
  have HI : Hid (RowsIn w a n N A FA L C F) := hin
  clear hin
  have HE : Hid (provedB N A F L n x = (holdsB N A F L n && namedB N n x)) := proved_eq N A F L n x
  cases hh : holdsB N A F L n
  · go_enter Try.func41, Try.ntmps41
    go_wp2_with (go_at_call 51; refine (holds_any _ _ _ N A FA L C F _ hcap hn HI.out).mono ?_; rintro e w' ⟨rfl, hb⟩)
    go_ret
    exact ⟨ret_bool (by rw [HE.out, hh]; rfl), hb⟩
  · go_enter Try.func41, Try.ntmps41
    go_wp2_with (first
      | (go_at_call 51; refine (holds_any _ _ _ N A FA L C F _ hcap hn HI.out).mono ?_; rintro e w' ⟨rfl, hb⟩)
      | (go_at_call 52; refine (named_any _ _ _ _ N A FA L C F _ x0 x1 hn (HI.out.below hb)).mono ?_; rintro e w' ⟨rfl, hb2⟩))
    go_ret
    exact ⟨ret_bool (by rw [HE.out, hh]; rfl), below_then hb hb2⟩

/-- Up to 80 rows of up to 40 factors. -/
def smallB (L : Nat → Nat) (n : Nat) : Bool := decide (n ≤ 80) && (List.range n).all fun i => decide (L i ≤ 40)
theorem smallB_iff {L : Nat → Nat} {n : Nat} : smallB L n = true ↔ n ≤ 80 ∧ ∀ i, i < n → L i ≤ 40 := by
  unfold smallB
  simp [List.all_eq_true]

end Go.Proofs.Ythheogiiggiciad
