/-
  The statements' walks (layer 4): GroupRight, GroupLays.
-/
import Derived.Test.YtljfjjfckepkdacGawk
import Derived.Deep.RegionHeld3
namespace Go.Proofs.Ytljfjjfckepkdac
open Go.RowKit

theorem Beh.drew {w w' : World} {P Q G H : Int} {a : Option Addr} {n cap : Nat} (h : Beh w P Q G H a n cap w') : Beh w P Q G H a n cap w'.drew := h.then (Old.refl _).drew
/-- What the statements call, behind a group that was laid out. -/
theorem law_calls (P Q G H : Int) (a : Option Addr) (n cap : Nat) (N A : Nat → Int) (FA : Nat → Option Addr) (L C : Nat → Nat) (F : Nat → Nat → Int) (w : World) (h4 : Four P Q G H) (hcap : n ≤ cap) (hin : RowsIn w a n N A FA L C F) :
    Hid (∀ wx, Beh w P Q G H a n cap wx → Calls Try.prog 5 #[] wx fun e w' => e = .returned (.bool true) ∧ Beh w P Q G H a n cap w') ∧
    Hid (∀ wx, Beh w P Q G H a n cap wx → Calls Try.prog 6 #[gv P Q G H a n cap] wx fun e w' => e = .returned (.bool (fewB L n)) ∧ Beh w P Q G H a n cap w') ∧
    Hid (n ≤ 80 → ∀ wx, Beh w P Q G H a n cap wx → Calls Try.prog 7 #[gv P Q G H a n cap] wx fun e w' => e = .returned (.bool (rightI P Q G H N A F L n)) ∧ Beh w P Q G H a n cap w') ∧
    Hid (Righ P Q G → ∀ x wx, 0 ≤ x → x ≤ 18446744073709551615 → Beh w P Q G H a n cap wx → Calls Try.prog 9 #[gv P Q G H a n cap, .int .u64 x] wx fun e w' => e = .returned (.bool (inI P Q x)) ∧ Beh w P Q G H a n cap w') ∧
    Hid (Righ P Q G → ∀ k wx, 0 ≤ k → k ≤ 18446744073709551615 → Beh w P Q G H a n cap wx → Calls Try.prog 11 #[gv P Q G H a n cap, .int .u64 k] wx fun e w' => e = .returned (.tuple #[.int .u64 (layI P Q k), .bool (layB Q k)]) ∧ Beh w P Q G H a n cap w') ∧
    Hid (Righ P Q G → ∀ x wx, 0 ≤ x → x ≤ 18446744073709551615 → Beh w P Q G H a n cap wx → Calls Try.prog 13 #[gv P Q G H a n cap, .int .u64 x] wx fun e w' => e = .returned (.tuple #[.int .u64 (backI P Q x), .bool (inI P Q x)]) ∧ Beh w P Q G H a n cap w') ∧
    Hid (∀ wx, Beh w P Q G H a n cap wx → wx.cell? ⟨w.heap.size, 0, none⟩ = some (.int .u64 P) ∧ wx.cell? ⟨w.heap.size, 1, none⟩ = some (.int .u64 Q) ∧ wx.cell? ⟨w.heap.size, 2, none⟩ = some (.int .u64 G) ∧ wx.cell? ⟨w.heap.size, 3, none⟩ = some (.int .u64 H) ∧ wx.cell? ⟨w.heap.size, 4, none⟩ = some (.slice a n cap)) ∧
    Hid (∀ t, Beh w P Q G H a n cap (w.alloc (go P Q G H a n cap t))) ∧ Hid (∀ wx, Beh w P Q G H a n cap wx → Old w wx) := by
  refine ⟨fun wx hb => ?_, fun wx hb => ?_, fun hn wx hb => ?_, fun hr x wx x0 x1 hb => ?_, fun hr x wx x0 x1 hb => ?_, fun hr x wx x0 x1 hb => ?_, fun wx hb => ⟨hb.cell rfl, hb.cell rfl, hb.cell rfl, hb.cell rfl, hb.cell rfl⟩, fun t => Beh.new .., fun wx hb => hb.old⟩
  · exact (awake4_any wx).mono fun e w' ⟨h, k⟩ => ⟨h, hb.then k⟩
  · exact (few_any P Q G H a n cap N A FA L C F wx (hin.old hb.old)).mono fun e w' ⟨h, k⟩ => ⟨h, hb.then (Old.ofBelow k)⟩
  · exact (gright_any P Q G H a n cap N A FA L C F wx h4 hcap hn (hin.old hb.old)).mono fun e w' ⟨h, k⟩ => ⟨h, hb.then k⟩
  · exact (gin_any P Q G H x a n cap wx h4 hr x0 x1).mono fun e w' ⟨h, k⟩ => ⟨h, hb.then k⟩
  · exact (glay_any P Q G H x a n cap wx h4 hr x0 x1).mono fun e w' ⟨h, k⟩ => ⟨h, hb.then k⟩
  · exact (gback_any P Q G H x a n cap wx h4 hr x0 x1).mono fun e w' ⟨h, k⟩ => ⟨h, hb.then k⟩
/-- And of the document's functions. -/
theorem ref_calls (P Q G H : Int) (a : Option Addr) (n cap : Nat) (N A : Nat → Int) (FA : Nat → Option Addr) (L C : Nat → Nat) (F : Nat → Nat → Int) (w : World) (h4 : Four P Q G H) (hin : RowsIn w a n N A FA L C F) :
    Hid (n ≤ 80 → ∀ wx, Beh w P Q G H a n cap wx → Calls Try.prog 8 #[gv P Q G H a n cap] wx fun e w' => e = .returned (.bool (rightI P Q G H N A F L n)) ∧ Beh w P Q G H a n cap w') ∧
    Hid (∀ x wx, x ≤ 18446744073709551615 → Beh w P Q G H a n cap wx → Calls Try.prog 10 #[gv P Q G H a n cap, .int .u64 x] wx fun e w' => e = .returned (.bool (inI P Q x)) ∧ Beh w P Q G H a n cap w') ∧
    Hid (∀ k wx, 0 ≤ k → k ≤ 18446744073709551615 → Beh w P Q G H a n cap wx → Calls Try.prog 12 #[gv P Q G H a n cap, .int .u64 k] wx fun e w' => e = .returned (.tuple #[.int .u64 (layI P Q k), .bool (layB Q k)]) ∧ Beh w P Q G H a n cap w') ∧
    Hid (∀ x wx, 0 ≤ x → x ≤ 18446744073709551615 → Beh w P Q G H a n cap wx → Calls Try.prog 14 #[gv P Q G H a n cap, .int .u64 x] wx fun e w' => e = .returned (.tuple #[.int .u64 (backI P Q x), .bool (inI P Q x)]) ∧ Beh w P Q G H a n cap w') := by
  refine ⟨fun hn wx hb => ?_, fun x wx x1 hb => ?_, fun x wx x0 x1 hb => ?_, fun x wx x0 x1 hb => ?_⟩
  · exact (rright_any P Q G H a n cap N A FA L C F wx hn (hin.old hb.old) h4.q0 h4.q1 h4.g1 h4.h1).mono fun e w' ⟨h, k⟩ => ⟨h, hb.then k⟩
  · exact (rin_any P Q G H x a n cap wx h4.q0 h4.q1 x1).mono fun e w' ⟨h, k⟩ => ⟨h, hb.then k⟩
  · exact (rlay_any P Q G H x a n cap wx h4.q0 h4.q1 x0 x1).mono fun e w' ⟨h, k⟩ => ⟨h, hb.then k⟩
  · exact (rback_any P Q G H x a n cap wx h4.q0 h4.q1 x0 x1).mono fun e w' ⟨h, k⟩ => ⟨h, hb.then k⟩

set_option linter.unusedSimpArgs false in
set_option maxHeartbeats 4000000 in
theorem law_right (P Q G H x : Int) (a : Option Addr) (n cap : Nat) (N A : Nat → Int) (FA : Nat → Option Addr) (L C : Nat → Nat) (F : Nat → Nat → Int) (w : World) (h4 : Four P Q G H) (hcap : n ≤ cap) (hin : RowsIn w a n N A FA L C F) (x0 : 0 ≤ x) (x1 : x ≤ 18446744073709551615) :
    Calls Try.prog 3 #[gv P Q G H a n cap, .int .u64 x] w fun e w' => e = .returned (.bool true) ∧ Old w w' := by
  obtain ⟨HA, HT, HR, HI, _, _, HF, HN, HO⟩ := law_calls P Q G H a n cap N A FA L C F w h4 hcap hin
  obtain ⟨HR', HI', _, _⟩ := ref_calls P Q G H a n cap N A FA L C F w h4 hin
  have HD : Hid (∀ wx, Beh w P Q G H a n cap wx → Beh w P Q G H a n cap wx.drew) := fun _ h => h.drew
  have ha := hin.a0
  clear hin h4
  cases ht : fewB L n
  · rw [ht] at HT
    clear HR HI HR' HI' ha ht
    go_enter Try.func3, Try.ntmps3
    go_wp2_with (first
      | (go_at_call 5; refine (HA.out _ (by first | exact HN.out _ | assumption)).mono ?_; rintro e w2 ⟨rfl, hb⟩; obtain ⟨d0, d1, d2, d3, d4⟩ := HF.out _ hb)
      | (go_at_call 6; refine (HT.out _ (by first | exact HN.out _ | assumption)).mono ?_; rintro e w2 ⟨rfl, hb⟩; obtain ⟨d0, d1, d2, d3, d4⟩ := HF.out _ hb))
    go_ret
    exact ⟨rfl, HO.out _ (by assumption)⟩
  have hn : n ≤ 80 := (fewB_iff.1 ht).1
  rw [ht] at HT
  have HR : Hid (∀ wx, Beh w P Q G H a n cap wx → Calls Try.prog 7 #[gv P Q G H a n cap] wx fun e w' => e = .returned (.bool (rightI P Q G H N A F L n)) ∧ Beh w P Q G H a n cap w') := HR.out hn
  have HR' : Hid (∀ wx, Beh w P Q G H a n cap wx → Calls Try.prog 8 #[gv P Q G H a n cap] wx fun e w' => e = .returned (.bool (rightI P Q G H N A F L n)) ∧ Beh w P Q G H a n cap w') := HR'.out hn
  clear ht hn hcap
  cases hr : rightI P Q G H N A F L n
  · rw [hr] at HR HR'
    clear HI HI' ha hr
    go_enter Try.func3, Try.ntmps3
    go_wp2_with (first
      | (go_at_call 5; refine (HA.out _ (by first | exact HN.out _ | assumption | exact HD.out _ (by assumption))).mono ?_; rintro e w2 ⟨rfl, hb⟩; obtain ⟨d0, d1, d2, d3, d4⟩ := HF.out _ hb)
      | (go_at_call 6; refine (HT.out _ (by first | exact HN.out _ | assumption | exact HD.out _ (by assumption))).mono ?_; rintro e w2 ⟨rfl, hb⟩; obtain ⟨d0, d1, d2, d3, d4⟩ := HF.out _ hb)
      | (go_at_call 7; refine (HR.out _ (by first | exact HN.out _ | assumption | exact HD.out _ (by assumption))).mono ?_; rintro e w2 ⟨rfl, hb⟩; obtain ⟨d0, d1, d2, d3, d4⟩ := HF.out _ hb))
    refine wp_region_held_drew (S := (fun w' => w'.cell? ⟨w.heap.size, 0, none⟩ = some (.int .u64 P) ∧ w'.cell? ⟨w.heap.size, 1, none⟩ = some (.int .u64 Q) ∧ w'.cell? ⟨w.heap.size, 2, none⟩ = some (.int .u64 G) ∧ w'.cell? ⟨w.heap.size, 3, none⟩ = some (.int .u64 H) ∧ w'.cell? ⟨w.heap.size, 4, none⟩ = some (.slice a n cap))) (by kernel_rfl) (HF.out _ (HD.out _ (by assumption))) (fun hHeld => ?_)
    refine wpAnyH_take (i := 0) (v := ?_) rfl (by kernel_rfl) (by kernel_rfl) (by kernel_rfl) (fun _ _ _ h => h) (Or.inl ⟨by rfl, ?_⟩) (by assumption) ?_
    rotate_left
    · intro wz hSw
      try dsimp only at hSw
      go_simp
      try rfl
    simp only [Act.put, List.getElem_toArray, List.getElem_cons_zero, List.getElem_cons_succ, List.setIfInBounds_toArray, List.set_cons_zero, List.set_cons_succ]
    refine wpAnyH_take (i := 1) (v := ?_) rfl (by kernel_rfl) (by kernel_rfl) (by kernel_rfl) (fun _ _ _ h => h) (Or.inl ⟨by rfl, ?_⟩) (by assumption) ?_
    rotate_left
    · intro wz hSw
      try dsimp only at hSw
      go_simp
      try rfl
    simp only [Act.put, List.getElem_toArray, List.getElem_cons_zero, List.getElem_cons_succ, List.setIfInBounds_toArray, List.set_cons_zero, List.set_cons_succ]
    refine wpAnyH_ready (rs := [2]) (by kernel_rfl) (by simp) ?_
    refine AllReadyH.cons rfl (fun K hK => ?_) AllReadyH.nil
    rw [if_pos (by rfl)]
    go_simp
    refine (HR'.out _ (HD.out _ (by assumption))).mono ?_
    rintro e w3 ⟨rfl, hb⟩
    refine hK.out _ _ (HF.out _ hb) (fun hHeld => ?_)
    clear hK K
    refine wpAnyH_take (i := 3) (v := ?_) rfl (by kernel_rfl) (by kernel_rfl) (by kernel_rfl) (fun _ _ _ h => h) (Or.inl ⟨by rfl, ?_⟩) (by assumption) ?_
    rotate_left
    · intro wz hSw
      try dsimp only at hSw
      go_simp
      try rfl
    simp only [Act.put, List.getElem_toArray, List.getElem_cons_zero, List.getElem_cons_succ, List.setIfInBounds_toArray, List.set_cons_zero, List.set_cons_succ]
    refine wpAnyH_take (i := 4) (v := ?_) rfl (by kernel_rfl) (by kernel_rfl) (by kernel_rfl) (fun _ _ _ h => h) (Or.inl ⟨by rfl, ?_⟩) (by assumption) ?_
    rotate_left
    · intro wz hSw
      try dsimp only at hSw
      go_simp
      try rfl
    simp only [Act.put, List.getElem_toArray, List.getElem_cons_zero, List.getElem_cons_succ, List.setIfInBounds_toArray, List.set_cons_zero, List.set_cons_succ]
    refine wpAnyH_take (i := 5) (v := ?_) rfl (by kernel_rfl) (by kernel_rfl) (by kernel_rfl) (fun _ _ _ h => h) (Or.inl ⟨by rfl, ?_⟩) (by assumption) ?_
    rotate_left
    · intro wz hSw
      try dsimp only at hSw
      go_simp
      try rfl
    simp only [Act.put, List.getElem_toArray, List.getElem_cons_zero, List.getElem_cons_succ, List.setIfInBounds_toArray, List.set_cons_zero, List.set_cons_succ]
    refine wpAnyH_take (i := 6) (v := ?_) rfl (by kernel_rfl) (by kernel_rfl) (by kernel_rfl) (fun _ _ _ h => h) (Or.inl ⟨by rfl, ?_⟩) (by assumption) ?_
    rotate_left
    · intro wz hSw
      try dsimp only at hSw
      go_simp
      try rfl
    simp only [Act.put, List.getElem_toArray, List.getElem_cons_zero, List.getElem_cons_succ, List.setIfInBounds_toArray, List.set_cons_zero, List.set_cons_succ]
    refine wpAnyH_take (i := 7) (v := ?_) rfl (by kernel_rfl) (by kernel_rfl) (by kernel_rfl) (fun _ _ _ h => h) (Or.inl ⟨by rfl, ?_⟩) (by assumption) ?_
    rotate_left
    · intro wz hSw
      try dsimp only at hSw
      go_simp
      try rfl
    simp only [Act.put, List.getElem_toArray, List.getElem_cons_zero, List.getElem_cons_succ, List.setIfInBounds_toArray, List.set_cons_zero, List.set_cons_succ]
    refine wpAnyH_take (i := 8) rfl (by kernel_rfl) (by kernel_rfl) (by kernel_rfl) (fun _ _ _ h => h) (Or.inr ⟨by rfl, rfl⟩) (by assumption) ?_
    simp only [Act.put, List.getElem_toArray, List.getElem_cons_zero, List.getElem_cons_succ, List.setIfInBounds_toArray, List.set_cons_zero, List.set_cons_succ]
    refine wpAnyH_take (i := 9) rfl (by kernel_rfl) (by kernel_rfl) (by kernel_rfl) (fun _ _ _ h => h) (Or.inr ⟨by rfl, rfl⟩) (by assumption) ?_
    simp only [Act.put, List.getElem_toArray, List.getElem_cons_zero, List.getElem_cons_succ, List.setIfInBounds_toArray, List.set_cons_zero, List.set_cons_succ]
    refine wpAnyH_take (i := 11) rfl (by kernel_rfl) (by kernel_rfl) (by kernel_rfl) (fun _ _ _ h => h) (Or.inr ⟨by rfl, rfl⟩) (by assumption) ?_
    simp only [Act.put, List.getElem_toArray, List.getElem_cons_zero, List.getElem_cons_succ, List.setIfInBounds_toArray, List.set_cons_zero, List.set_cons_succ]
    refine wpAnyH_take (i := 12) rfl (by kernel_rfl) (by kernel_rfl) (by kernel_rfl) (fun _ _ _ h => h) (Or.inr ⟨by rfl, rfl⟩) (by assumption) ?_
    simp only [Act.put, List.getElem_toArray, List.getElem_cons_zero, List.getElem_cons_succ, List.setIfInBounds_toArray, List.set_cons_zero, List.set_cons_succ]
    refine wpAnyH_take (i := 10) rfl (by kernel_rfl) (by kernel_rfl) (by kernel_rfl) (fun _ _ _ h => h) (Or.inr ⟨by rfl, rfl⟩) (by assumption) ?_
    simp only [Act.put, List.getElem_toArray, List.getElem_cons_zero, List.getElem_cons_succ, List.setIfInBounds_toArray, List.set_cons_zero, List.set_cons_succ]
    refine wpAnyH_take (i := 13) rfl (by kernel_rfl) (by kernel_rfl) (by kernel_rfl) (fun _ _ _ h => h) (Or.inr ⟨by rfl, rfl⟩) (by assumption) ?_
    simp only [Act.put, List.getElem_toArray, List.getElem_cons_zero, List.getElem_cons_succ, List.setIfInBounds_toArray, List.set_cons_zero, List.set_cons_succ]
    refine wpAnyH_take (i := 14) rfl (by kernel_rfl) (by kernel_rfl) (by kernel_rfl) (fun _ _ _ h => h) (Or.inr ⟨by rfl, rfl⟩) (by assumption) ?_
    simp only [Act.put, List.getElem_toArray, List.getElem_cons_zero, List.getElem_cons_succ, List.setIfInBounds_toArray, List.set_cons_zero, List.set_cons_succ]
    refine wpAnyH_take (i := 15) (v := ?_) rfl (by kernel_rfl) (by kernel_rfl) (by kernel_rfl) (fun _ _ _ h => h) (Or.inl ⟨by rfl, ?_⟩) (by assumption) ?_
    rotate_left
    · intro wz hSw
      try dsimp only at hSw
      go_simp
      try rfl
    simp only [Act.put, List.getElem_toArray, List.getElem_cons_zero, List.getElem_cons_succ, List.setIfInBounds_toArray, List.set_cons_zero, List.set_cons_succ]
    refine wpAnyH_take (i := 16) (v := ?_) rfl (by kernel_rfl) (by kernel_rfl) (by kernel_rfl) (fun _ _ _ h => h) (Or.inl ⟨by rfl, ?_⟩) (by assumption) ?_
    rotate_left
    · intro wz hSw
      try dsimp only at hSw
      go_simp
      try rfl
    simp only [Act.put, List.getElem_toArray, List.getElem_cons_zero, List.getElem_cons_succ, List.setIfInBounds_toArray, List.set_cons_zero, List.set_cons_succ]
    refine wpAnyH_take (i := 17) (v := ?_) rfl (by kernel_rfl) (by kernel_rfl) (by kernel_rfl) (fun _ _ _ h => h) (Or.inl ⟨by rfl, ?_⟩) (by assumption) ?_
    rotate_left
    · intro wz hSw
      try dsimp only at hSw
      go_simp
      try rfl
    simp only [Act.put, List.getElem_toArray, List.getElem_cons_zero, List.getElem_cons_succ, List.setIfInBounds_toArray, List.set_cons_zero, List.set_cons_succ]
    refine wpAnyH_done (by kernel_rfl) ?_ _
    go_wp2_with fail
    go_ret
    exact ⟨rfl, HO.out _ (by assumption)⟩
  have hR := right_righ ha hr
  rw [hr] at HR HR'
  have HI : Hid (∀ wx, Beh w P Q G H a n cap wx → Calls Try.prog 9 #[gv P Q G H a n cap, .int .u64 x] wx fun e w' => e = .returned (.bool (inI P Q x)) ∧ Beh w P Q G H a n cap w') := fun wx hb => HI.out hR x wx x0 x1 hb
  have HI' : Hid (∀ wx, Beh w P Q G H a n cap wx → Calls Try.prog 10 #[gv P Q G H a n cap, .int .u64 x] wx fun e w' => e = .returned (.bool (inI P Q x)) ∧ Beh w P Q G H a n cap w') := fun wx hb => HI'.out x wx x1 hb
  clear ha hr hR
  generalize inI P Q x = b at *
  cases b
  all_goals
    go_enter Try.func3, Try.ntmps3
    go_wp2_with (first
      | (go_at_call 5; refine (HA.out _ (by first | exact HN.out _ | assumption | exact HD.out _ (by assumption))).mono ?_; rintro e w2 ⟨rfl, hb⟩; obtain ⟨d0, d1, d2, d3, d4⟩ := HF.out _ hb)
      | (go_at_call 6; refine (HT.out _ (by first | exact HN.out _ | assumption | exact HD.out _ (by assumption))).mono ?_; rintro e w2 ⟨rfl, hb⟩; obtain ⟨d0, d1, d2, d3, d4⟩ := HF.out _ hb)
      | (go_at_call 7; refine (HR.out _ (by first | exact HN.out _ | assumption | exact HD.out _ (by assumption))).mono ?_; rintro e w2 ⟨rfl, hb⟩; obtain ⟨d0, d1, d2, d3, d4⟩ := HF.out _ hb))
    refine wp_region_held_drew (S := (fun w' => w'.cell? ⟨w.heap.size, 0, none⟩ = some (.int .u64 P) ∧ w'.cell? ⟨w.heap.size, 1, none⟩ = some (.int .u64 Q) ∧ w'.cell? ⟨w.heap.size, 2, none⟩ = some (.int .u64 G) ∧ w'.cell? ⟨w.heap.size, 3, none⟩ = some (.int .u64 H) ∧ w'.cell? ⟨w.heap.size, 4, none⟩ = some (.slice a n cap))) (by kernel_rfl) (HF.out _ (HD.out _ (by assumption))) (fun hHeld => ?_)
    refine wpAnyH_take (i := 0) (v := ?_) rfl (by kernel_rfl) (by kernel_rfl) (by kernel_rfl) (fun _ _ _ h => h) (Or.inl ⟨by rfl, ?_⟩) (by assumption) ?_
    rotate_left
    · intro wz hSw
      try dsimp only at hSw
      go_simp
      try rfl
    simp only [Act.put, List.getElem_toArray, List.getElem_cons_zero, List.getElem_cons_succ, List.setIfInBounds_toArray, List.set_cons_zero, List.set_cons_succ]
    refine wpAnyH_take (i := 1) (v := ?_) rfl (by kernel_rfl) (by kernel_rfl) (by kernel_rfl) (fun _ _ _ h => h) (Or.inl ⟨by rfl, ?_⟩) (by assumption) ?_
    rotate_left
    · intro wz hSw
      try dsimp only at hSw
      go_simp
      try rfl
    simp only [Act.put, List.getElem_toArray, List.getElem_cons_zero, List.getElem_cons_succ, List.setIfInBounds_toArray, List.set_cons_zero, List.set_cons_succ]
    refine wpAnyH_ready (rs := [2]) (by kernel_rfl) (by simp) ?_
    refine AllReadyH.cons rfl (fun K hK => ?_) AllReadyH.nil
    rw [if_pos (by rfl)]
    go_simp
    refine (HR'.out _ (HD.out _ (by assumption))).mono ?_
    rintro e w3 ⟨rfl, hb⟩
    refine hK.out _ _ (HF.out _ hb) (fun hHeld => ?_)
    clear hK K
    refine wpAnyH_take (i := 3) (v := ?_) rfl (by kernel_rfl) (by kernel_rfl) (by kernel_rfl) (fun _ _ _ h => h) (Or.inl ⟨by rfl, ?_⟩) (by assumption) ?_
    rotate_left
    · intro wz hSw
      try dsimp only at hSw
      go_simp
      try rfl
    simp only [Act.put, List.getElem_toArray, List.getElem_cons_zero, List.getElem_cons_succ, List.setIfInBounds_toArray, List.set_cons_zero, List.set_cons_succ]
    refine wpAnyH_take (i := 4) (v := ?_) rfl (by kernel_rfl) (by kernel_rfl) (by kernel_rfl) (fun _ _ _ h => h) (Or.inl ⟨by rfl, ?_⟩) (by assumption) ?_
    rotate_left
    · intro wz hSw
      try dsimp only at hSw
      go_simp
      try rfl
    simp only [Act.put, List.getElem_toArray, List.getElem_cons_zero, List.getElem_cons_succ, List.setIfInBounds_toArray, List.set_cons_zero, List.set_cons_succ]
    refine wpAnyH_take (i := 5) (v := ?_) rfl (by kernel_rfl) (by kernel_rfl) (by kernel_rfl) (fun _ _ _ h => h) (Or.inl ⟨by rfl, ?_⟩) (by assumption) ?_
    rotate_left
    · intro wz hSw
      try dsimp only at hSw
      go_simp
      try rfl
    simp only [Act.put, List.getElem_toArray, List.getElem_cons_zero, List.getElem_cons_succ, List.setIfInBounds_toArray, List.set_cons_zero, List.set_cons_succ]
    refine wpAnyH_take (i := 6) (v := ?_) rfl (by kernel_rfl) (by kernel_rfl) (by kernel_rfl) (fun _ _ _ h => h) (Or.inl ⟨by rfl, ?_⟩) (by assumption) ?_
    rotate_left
    · intro wz hSw
      try dsimp only at hSw
      go_simp
      try rfl
    simp only [Act.put, List.getElem_toArray, List.getElem_cons_zero, List.getElem_cons_succ, List.setIfInBounds_toArray, List.set_cons_zero, List.set_cons_succ]
    refine wpAnyH_take (i := 7) (v := ?_) rfl (by kernel_rfl) (by kernel_rfl) (by kernel_rfl) (fun _ _ _ h => h) (Or.inl ⟨by rfl, ?_⟩) (by assumption) ?_
    rotate_left
    · intro wz hSw
      try dsimp only at hSw
      go_simp
      try rfl
    simp only [Act.put, List.getElem_toArray, List.getElem_cons_zero, List.getElem_cons_succ, List.setIfInBounds_toArray, List.set_cons_zero, List.set_cons_succ]
    refine wpAnyH_take (i := 8) (v := ?_) rfl (by kernel_rfl) (by kernel_rfl) (by kernel_rfl) (fun _ _ _ h => h) (Or.inl ⟨by rfl, ?_⟩) (by assumption) ?_
    rotate_left
    · intro wz hSw
      try dsimp only at hSw
      go_simp
      try rfl
    simp only [Act.put, List.getElem_toArray, List.getElem_cons_zero, List.getElem_cons_succ, List.setIfInBounds_toArray, List.set_cons_zero, List.set_cons_succ]
    refine wpAnyH_take (i := 9) (v := ?_) rfl (by kernel_rfl) (by kernel_rfl) (by kernel_rfl) (fun _ _ _ h => h) (Or.inl ⟨by rfl, ?_⟩) (by assumption) ?_
    rotate_left
    · intro wz hSw
      try dsimp only at hSw
      go_simp
      try rfl
    simp only [Act.put, List.getElem_toArray, List.getElem_cons_zero, List.getElem_cons_succ, List.setIfInBounds_toArray, List.set_cons_zero, List.set_cons_succ]
    refine wpAnyH_take (i := 11) (v := ?_) rfl (by kernel_rfl) (by kernel_rfl) (by kernel_rfl) (fun _ _ _ h => h) (Or.inl ⟨by rfl, ?_⟩) (by assumption) ?_
    rotate_left
    · intro wz hSw
      try dsimp only at hSw
      go_simp
      try rfl
    simp only [Act.put, List.getElem_toArray, List.getElem_cons_zero, List.getElem_cons_succ, List.setIfInBounds_toArray, List.set_cons_zero, List.set_cons_succ]
    refine wpAnyH_take (i := 12) (v := ?_) rfl (by kernel_rfl) (by kernel_rfl) (by kernel_rfl) (fun _ _ _ h => h) (Or.inl ⟨by rfl, ?_⟩) (by assumption) ?_
    rotate_left
    · intro wz hSw
      try dsimp only at hSw
      go_simp
      try rfl
    simp only [Act.put, List.getElem_toArray, List.getElem_cons_zero, List.getElem_cons_succ, List.setIfInBounds_toArray, List.set_cons_zero, List.set_cons_succ]
    refine wpAnyH_ready (rs := [10]) (by kernel_rfl) (by simp) ?_
    refine AllReadyH.cons rfl (fun K hK => ?_) AllReadyH.nil
    rw [if_pos (by rfl)]
    go_simp
    refine (HI.out _ (by assumption)).mono ?_
    rintro e w4 ⟨rfl, hb⟩
    refine hK.out _ _ (HF.out _ hb) (fun hHeld => ?_)
    clear hK K
    refine wpAnyH_ready (rs := [13]) (by kernel_rfl) (by simp) ?_
    refine AllReadyH.cons rfl (fun K hK => ?_) AllReadyH.nil
    rw [if_pos (by rfl)]
    go_simp
    refine (HI'.out _ (by assumption)).mono ?_
    rintro e w5 ⟨rfl, hb⟩
    refine hK.out _ _ (HF.out _ hb) (fun hHeld => ?_)
    clear hK K
    refine wpAnyH_take (i := 14) (v := ?_) rfl (by kernel_rfl) (by kernel_rfl) (by kernel_rfl) (fun _ _ _ h => h) (Or.inl ⟨by rfl, ?_⟩) (by assumption) ?_
    rotate_left
    · intro wz hSw
      try dsimp only at hSw
      go_simp
      try rfl
    simp only [Act.put, List.getElem_toArray, List.getElem_cons_zero, List.getElem_cons_succ, List.setIfInBounds_toArray, List.set_cons_zero, List.set_cons_succ]
    refine wpAnyH_take (i := 15) (v := ?_) rfl (by kernel_rfl) (by kernel_rfl) (by kernel_rfl) (fun _ _ _ h => h) (Or.inl ⟨by rfl, ?_⟩) (by assumption) ?_
    rotate_left
    · intro wz hSw
      try dsimp only at hSw
      go_simp
      try rfl
    simp only [Act.put, List.getElem_toArray, List.getElem_cons_zero, List.getElem_cons_succ, List.setIfInBounds_toArray, List.set_cons_zero, List.set_cons_succ]
    refine wpAnyH_take (i := 16) (v := ?_) rfl (by kernel_rfl) (by kernel_rfl) (by kernel_rfl) (fun _ _ _ h => h) (Or.inl ⟨by rfl, ?_⟩) (by assumption) ?_
    rotate_left
    · intro wz hSw
      try dsimp only at hSw
      go_simp
      try rfl
    simp only [Act.put, List.getElem_toArray, List.getElem_cons_zero, List.getElem_cons_succ, List.setIfInBounds_toArray, List.set_cons_zero, List.set_cons_succ]
    refine wpAnyH_take (i := 17) (v := ?_) rfl (by kernel_rfl) (by kernel_rfl) (by kernel_rfl) (fun _ _ _ h => h) (Or.inl ⟨by rfl, ?_⟩) (by assumption) ?_
    rotate_left
    · intro wz hSw
      try dsimp only at hSw
      go_simp
      try rfl
    simp only [Act.put, List.getElem_toArray, List.getElem_cons_zero, List.getElem_cons_succ, List.setIfInBounds_toArray, List.set_cons_zero, List.set_cons_succ]
    refine wpAnyH_done (by kernel_rfl) ?_ _
    go_wp2_with fail
    go_ret
    exact ⟨rfl, HO.out _ (by assumption)⟩

end Go.Proofs.Ytljfjjfckepkdac
