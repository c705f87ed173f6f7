/-
  The statement's walk (layer 4): GroupLays.
-/
import Derived.Test.YtljfjjfckepkdacGlaw
namespace Go.Proofs.Ytljfjjfckepkdac
open Go.RowKit

theorem inI_bd {P Q x : Int} (h : inI P Q x = true) : 0 ≤ x ∧ x < P := by
  have := inI_iff.1 h
  omega

set_option maxHeartbeats 4000000 in
theorem law_lays (P Q G H k : Int) (a : Option Addr) (n cap : Nat) (N A : Nat → Int) (FA : Nat → Option Addr) (L C : Nat → Nat) (F : Nat → Nat → Int) (w : World) (h4 : Four P Q G H) (hcap : n ≤ cap) (hin : RowsIn w a n N A FA L C F) (x0 : 0 ≤ k) (x1 : k ≤ 18446744073709551615) :
    Calls Try.prog 4 #[gv P Q G H a n cap, .int .u64 k] w fun e w' => e = .returned (.bool true) ∧ Old w w' := by
  obtain ⟨HA, HT, HR, HI, HL, HK, HF, HN, HO⟩ := law_calls P Q G H a n cap N A FA L C F w h4 hcap hin
  obtain ⟨_, _, HL', HK'⟩ := ref_calls P Q G H a n cap N A FA L C F w h4 hin
  have HD : Hid (∀ wx, Beh w P Q G H a n cap wx → Beh w P Q G H a n cap wx.drew) := fun _ h => h.drew
  have ha := hin.a0
  clear hin
  cases ht : fewB L n
  · rw [ht] at HT
    clear HR HI HL HK HL' HK' ha ht h4
    go_enter Try.func4, Try.ntmps4
    go_wp2_with (first
      | (go_at_call 5; refine (HA.out _ (by first | exact HN.out _ | assumption | exact HD.out _ (by assumption))).mono ?_; rintro e w2 ⟨rfl, hb⟩; obtain ⟨d0, d1, d2, d3, d4⟩ := HF.out _ hb)
      | (go_at_call 6; refine (HT.out _ (by first | exact HN.out _ | assumption | exact HD.out _ (by assumption))).mono ?_; rintro e w2 ⟨rfl, hb⟩; obtain ⟨d0, d1, d2, d3, d4⟩ := HF.out _ hb))
    go_ret
    exact ⟨rfl, HO.out _ (by assumption)⟩
  have hn : n ≤ 80 := (fewB_iff.1 ht).1
  rw [ht] at HT
  have HR : Hid (∀ wx, Beh w P Q G H a n cap wx → Calls Try.prog 7 #[gv P Q G H a n cap] wx fun e w' => e = .returned (.bool (rightI P Q G H N A F L n)) ∧ Beh w P Q G H a n cap w') := HR.out hn
  clear ht hn hcap
  cases hr : rightI P Q G H N A F L n
  · rw [hr] at HR
    clear HI HL HK HL' HK' ha hr h4
    go_enter Try.func4, Try.ntmps4
    go_wp2_with (first
      | (go_at_call 5; refine (HA.out _ (by first | exact HN.out _ | assumption | exact HD.out _ (by assumption))).mono ?_; rintro e w2 ⟨rfl, hb⟩; obtain ⟨d0, d1, d2, d3, d4⟩ := HF.out _ hb)
      | (go_at_call 6; refine (HT.out _ (by first | exact HN.out _ | assumption | exact HD.out _ (by assumption))).mono ?_; rintro e w2 ⟨rfl, hb⟩; obtain ⟨d0, d1, d2, d3, d4⟩ := HF.out _ hb)
      | (go_at_call 7; refine (HR.out _ (by first | exact HN.out _ | assumption | exact HD.out _ (by assumption))).mono ?_; rintro e w2 ⟨rfl, hb⟩; obtain ⟨d0, d1, d2, d3, d4⟩ := HF.out _ hb))
    go_ret
    exact ⟨rfl, HO.out _ (by assumption)⟩
  have hR := right_righ ha hr
  rw [hr] at HR
  clear ha hr
  have hp := h4.p1
  have C1 : Hid (∀ wx, Beh w P Q G H a n cap wx → Calls Try.prog 11 #[gv P Q G H a n cap, .int .u64 k] wx fun e w' => e = .returned (.tuple #[.int .u64 (layI P Q k), .bool (layB Q k)]) ∧ Beh w P Q G H a n cap w') := fun wx hb => HL.out hR k wx x0 x1 hb
  have C2 : Hid (∀ wx, Beh w P Q G H a n cap wx → Calls Try.prog 12 #[gv P Q G H a n cap, .int .u64 k] wx fun e w' => e = .returned (.tuple #[.int .u64 (layI P Q k), .bool (layB Q k)]) ∧ Beh w P Q G H a n cap w') := fun wx hb => HL'.out k wx x0 x1 hb
  have C3 : Hid (∀ wx, Beh w P Q G H a n cap wx → Calls Try.prog 13 #[gv P Q G H a n cap, .int .u64 k] wx fun e w' => e = .returned (.tuple #[.int .u64 (backI P Q k), .bool (inI P Q k)]) ∧ Beh w P Q G H a n cap w') := fun wx hb => HK.out hR k wx x0 x1 hb
  have C4 : Hid (∀ wx, Beh w P Q G H a n cap wx → Calls Try.prog 14 #[gv P Q G H a n cap, .int .u64 k] wx fun e w' => e = .returned (.tuple #[.int .u64 (backI P Q k), .bool (inI P Q k)]) ∧ Beh w P Q G H a n cap w') := fun wx hb => HK'.out k wx x0 x1 hb
  have C5 : k < Q → Hid (∀ wx, Beh w P Q G H a n cap wx → Calls Try.prog 13 #[gv P Q G H a n cap, .int .u64 (layI P Q k)] wx fun e w' => e = .returned (.tuple #[.int .u64 k, .bool true]) ∧ Beh w P Q G H a n cap w') := fun hq wx hb => by
    obtain ⟨l1, l2⟩ := hR.lay_back x0 hq
    have := inI_bd l1
    refine (HK.out hR (layI P Q k) wx (by omega) (by omega) hb).mono fun e w' ⟨h, k⟩ => ⟨?_, k⟩
    rw [h, l1, l2]
  have C6 : k < Q → Hid (∀ wx, Beh w P Q G H a n cap wx → Calls Try.prog 9 #[gv P Q G H a n cap, .int .u64 (layI P Q k)] wx fun e w' => e = .returned (.bool true) ∧ Beh w P Q G H a n cap w') := fun hq wx hb => by
    obtain ⟨l1, l2⟩ := hR.lay_back x0 hq
    have := inI_bd l1
    refine (HI.out hR (layI P Q k) wx (by omega) (by omega) hb).mono fun e w' ⟨h, k⟩ => ⟨?_, k⟩
    rw [h, l1]
  have C7 : inI P Q k = true → Hid (∀ wx, Beh w P Q G H a n cap wx → Calls Try.prog 11 #[gv P Q G H a n cap, .int .u64 (backI P Q k)] wx fun e w' => e = .returned (.tuple #[.int .u64 k, .bool true]) ∧ Beh w P Q G H a n cap w') := fun hq wx hb => by
    obtain ⟨b0, b1, b2, b3⟩ := hR.back_lay hq
    have := hR.q1
    refine (HL.out hR (backI P Q k) wx b0 (by omega) hb).mono fun e w' ⟨h, k⟩ => ⟨?_, k⟩
    rw [h, b2, b3]
  have hlb : layB Q k = !decide (Q ≤ k) := rfl
  clear HI HL HK HL' HK' hR hp h4
  generalize layI P Q k = X at *
  generalize backI P Q k = Y at *
  generalize layB Q k = lb at *
  generalize inI P Q k = ib at *
  rcases Int.lt_or_le k Q with hq | hq
  · obtain rfl : lb = true := by rw [hlb]; simp; omega
    have D5 : Hid _ := C5 hq
    have D6 : Hid _ := C6 hq
    clear hlb hq C5 C6
    cases ib
    · clear C7
      go_enter Try.func4, Try.ntmps4
      go_wp2_with (first
        | (go_at_call 5; refine (HA.out _ (by first | exact HN.out _ | assumption | exact HD.out _ (by assumption))).mono ?_; rintro e w2 ⟨rfl, hb⟩; obtain ⟨d0, d1, d2, d3, d4⟩ := HF.out _ hb)
        | (go_at_call 6; refine (HT.out _ (by first | exact HN.out _ | assumption | exact HD.out _ (by assumption))).mono ?_; rintro e w2 ⟨rfl, hb⟩; obtain ⟨d0, d1, d2, d3, d4⟩ := HF.out _ hb)
        | (go_at_call 7; refine (HR.out _ (by first | exact HN.out _ | assumption | exact HD.out _ (by assumption))).mono ?_; rintro e w2 ⟨rfl, hb⟩; obtain ⟨d0, d1, d2, d3, d4⟩ := HF.out _ hb)
        | (go_at_call 12; refine (C2.out _ (by first | exact HN.out _ | assumption | exact HD.out _ (by assumption))).mono ?_; rintro e w2 ⟨rfl, hb⟩; obtain ⟨d0, d1, d2, d3, d4⟩ := HF.out _ hb)
        | (go_at_call 14; refine (C4.out _ (by first | exact HN.out _ | assumption | exact HD.out _ (by assumption))).mono ?_; rintro e w2 ⟨rfl, hb⟩; obtain ⟨d0, d1, d2, d3, d4⟩ := HF.out _ hb)
        | (go_at_call_of 13 (Value.int IntKind.u64 X); refine (D5.out _ (by first | exact HN.out _ | assumption | exact HD.out _ (by assumption))).mono ?_; rintro e w2 ⟨rfl, hb⟩; obtain ⟨d0, d1, d2, d3, d4⟩ := HF.out _ hb)
        | (go_at_call 9; refine (D6.out _ (by first | exact HN.out _ | assumption | exact HD.out _ (by assumption))).mono ?_; rintro e w2 ⟨rfl, hb⟩; obtain ⟨d0, d1, d2, d3, d4⟩ := HF.out _ hb)
        | (go_at_call_of 11 (Value.int IntKind.u64 k); refine (C1.out _ (by first | exact HN.out _ | assumption | exact HD.out _ (by assumption))).mono ?_; rintro e w2 ⟨rfl, hb⟩; obtain ⟨d0, d1, d2, d3, d4⟩ := HF.out _ hb)
        | (go_at_call_of 13 (Value.int IntKind.u64 k); refine (C3.out _ (by first | exact HN.out _ | assumption | exact HD.out _ (by assumption))).mono ?_; rintro e w2 ⟨rfl, hb⟩; obtain ⟨d0, d1, d2, d3, d4⟩ := HF.out _ hb))
      go_ret
      exact ⟨rfl, HO.out _ (by assumption)⟩
    have D7 : Hid _ := C7 (Eq.refl true)
    clear C7
    go_enter Try.func4, Try.ntmps4
    go_wp2_with (first
      | (go_at_call 5; refine (HA.out _ (by first | exact HN.out _ | assumption | exact HD.out _ (by assumption))).mono ?_; rintro e w2 ⟨rfl, hb⟩; obtain ⟨d0, d1, d2, d3, d4⟩ := HF.out _ hb)
      | (go_at_call 6; refine (HT.out _ (by first | exact HN.out _ | assumption | exact HD.out _ (by assumption))).mono ?_; rintro e w2 ⟨rfl, hb⟩; obtain ⟨d0, d1, d2, d3, d4⟩ := HF.out _ hb)
      | (go_at_call 7; refine (HR.out _ (by first | exact HN.out _ | assumption | exact HD.out _ (by assumption))).mono ?_; rintro e w2 ⟨rfl, hb⟩; obtain ⟨d0, d1, d2, d3, d4⟩ := HF.out _ hb)
      | (go_at_call 12; refine (C2.out _ (by first | exact HN.out _ | assumption | exact HD.out _ (by assumption))).mono ?_; rintro e w2 ⟨rfl, hb⟩; obtain ⟨d0, d1, d2, d3, d4⟩ := HF.out _ hb)
      | (go_at_call 14; refine (C4.out _ (by first | exact HN.out _ | assumption | exact HD.out _ (by assumption))).mono ?_; rintro e w2 ⟨rfl, hb⟩; obtain ⟨d0, d1, d2, d3, d4⟩ := HF.out _ hb)
      | (go_at_call_of 13 (Value.int IntKind.u64 X); refine (D5.out _ (by first | exact HN.out _ | assumption | exact HD.out _ (by assumption))).mono ?_; rintro e w2 ⟨rfl, hb⟩; obtain ⟨d0, d1, d2, d3, d4⟩ := HF.out _ hb)
      | (go_at_call 9; refine (D6.out _ (by first | exact HN.out _ | assumption | exact HD.out _ (by assumption))).mono ?_; rintro e w2 ⟨rfl, hb⟩; obtain ⟨d0, d1, d2, d3, d4⟩ := HF.out _ hb)
      | (go_at_call_of 11 (Value.int IntKind.u64 Y); refine (D7.out _ (by first | exact HN.out _ | assumption | exact HD.out _ (by assumption))).mono ?_; rintro e w2 ⟨rfl, hb⟩; obtain ⟨d0, d1, d2, d3, d4⟩ := HF.out _ hb)
      | (go_at_call_of 11 (Value.int IntKind.u64 k); refine (C1.out _ (by first | exact HN.out _ | assumption | exact HD.out _ (by assumption))).mono ?_; rintro e w2 ⟨rfl, hb⟩; obtain ⟨d0, d1, d2, d3, d4⟩ := HF.out _ hb)
      | (go_at_call_of 13 (Value.int IntKind.u64 k); refine (C3.out _ (by first | exact HN.out _ | assumption | exact HD.out _ (by assumption))).mono ?_; rintro e w2 ⟨rfl, hb⟩; obtain ⟨d0, d1, d2, d3, d4⟩ := HF.out _ hb))
    go_ret
    exact ⟨rfl, HO.out _ (by assumption)⟩
  · obtain rfl : lb = false := by rw [hlb]; simp; omega
    clear C5 C6 hlb hq
    cases ib
    · clear C7
      go_enter Try.func4, Try.ntmps4
      go_wp2_with (first
        | (go_at_call 5; refine (HA.out _ (by first | exact HN.out _ | assumption | exact HD.out _ (by assumption))).mono ?_; rintro e w2 ⟨rfl, hb⟩; obtain ⟨d0, d1, d2, d3, d4⟩ := HF.out _ hb)
        | (go_at_call 6; refine (HT.out _ (by first | exact HN.out _ | assumption | exact HD.out _ (by assumption))).mono ?_; rintro e w2 ⟨rfl, hb⟩; obtain ⟨d0, d1, d2, d3, d4⟩ := HF.out _ hb)
        | (go_at_call 7; refine (HR.out _ (by first | exact HN.out _ | assumption | exact HD.out _ (by assumption))).mono ?_; rintro e w2 ⟨rfl, hb⟩; obtain ⟨d0, d1, d2, d3, d4⟩ := HF.out _ hb)
        | (go_at_call 12; refine (C2.out _ (by first | exact HN.out _ | assumption | exact HD.out _ (by assumption))).mono ?_; rintro e w2 ⟨rfl, hb⟩; obtain ⟨d0, d1, d2, d3, d4⟩ := HF.out _ hb)
        | (go_at_call 14; refine (C4.out _ (by first | exact HN.out _ | assumption | exact HD.out _ (by assumption))).mono ?_; rintro e w2 ⟨rfl, hb⟩; obtain ⟨d0, d1, d2, d3, d4⟩ := HF.out _ hb)
        | (go_at_call_of 11 (Value.int IntKind.u64 k); refine (C1.out _ (by first | exact HN.out _ | assumption | exact HD.out _ (by assumption))).mono ?_; rintro e w2 ⟨rfl, hb⟩; obtain ⟨d0, d1, d2, d3, d4⟩ := HF.out _ hb)
        | (go_at_call_of 13 (Value.int IntKind.u64 k); refine (C3.out _ (by first | exact HN.out _ | assumption | exact HD.out _ (by assumption))).mono ?_; rintro e w2 ⟨rfl, hb⟩; obtain ⟨d0, d1, d2, d3, d4⟩ := HF.out _ hb))
      go_ret
      exact ⟨rfl, HO.out _ (by assumption)⟩
    have D7 : Hid _ := C7 (Eq.refl true)
    clear C7
    go_enter Try.func4, Try.ntmps4
    go_wp2_with (first
      | (go_at_call 5; refine (HA.out _ (by first | exact HN.out _ | assumption | exact HD.out _ (by assumption))).mono ?_; rintro e w2 ⟨rfl, hb⟩; obtain ⟨d0, d1, d2, d3, d4⟩ := HF.out _ hb)
      | (go_at_call 6; refine (HT.out _ (by first | exact HN.out _ | assumption | exact HD.out _ (by assumption))).mono ?_; rintro e w2 ⟨rfl, hb⟩; obtain ⟨d0, d1, d2, d3, d4⟩ := HF.out _ hb)
      | (go_at_call 7; refine (HR.out _ (by first | exact HN.out _ | assumption | exact HD.out _ (by assumption))).mono ?_; rintro e w2 ⟨rfl, hb⟩; obtain ⟨d0, d1, d2, d3, d4⟩ := HF.out _ hb)
      | (go_at_call 12; refine (C2.out _ (by first | exact HN.out _ | assumption | exact HD.out _ (by assumption))).mono ?_; rintro e w2 ⟨rfl, hb⟩; obtain ⟨d0, d1, d2, d3, d4⟩ := HF.out _ hb)
      | (go_at_call 14; refine (C4.out _ (by first | exact HN.out _ | assumption | exact HD.out _ (by assumption))).mono ?_; rintro e w2 ⟨rfl, hb⟩; obtain ⟨d0, d1, d2, d3, d4⟩ := HF.out _ hb)
      | (go_at_call_of 11 (Value.int IntKind.u64 Y); refine (D7.out _ (by first | exact HN.out _ | assumption | exact HD.out _ (by assumption))).mono ?_; rintro e w2 ⟨rfl, hb⟩; obtain ⟨d0, d1, d2, d3, d4⟩ := HF.out _ hb)
      | (go_at_call_of 11 (Value.int IntKind.u64 k); refine (C1.out _ (by first | exact HN.out _ | assumption | exact HD.out _ (by assumption))).mono ?_; rintro e w2 ⟨rfl, hb⟩; obtain ⟨d0, d1, d2, d3, d4⟩ := HF.out _ hb)
      | (go_at_call_of 13 (Value.int IntKind.u64 k); refine (C3.out _ (by first | exact HN.out _ | assumption | exact HD.out _ (by assumption))).mono ?_; rintro e w2 ⟨rfl, hb⟩; obtain ⟨d0, d1, d2, d3, d4⟩ := HF.out _ hb))
    go_ret
    exact ⟨rfl, HO.out _ (by assumption)⟩

end Go.Proofs.Ytljfjjfckepkdac
