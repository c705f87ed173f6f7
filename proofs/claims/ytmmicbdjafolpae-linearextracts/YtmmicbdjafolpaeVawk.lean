/-
  The statements' awake (layer 5).
-/
import Derived.Test.YtmmicbdjafolpaeVall
import Derived.Deep.Heap
import Derived.Deep.WholeRow
namespace Go.Proofs.Ytmmicbdjafolpae
open Go.RowKit

theorem sm_key : expI 2027 1013 4 7 = 168 := by decide +kernel
theorem sm_u : mulI 1 (expI 2027 1013 4 11) 2027 = 441 := by decide +kernel
theorem sm_v : mulI 36 (expI 2027 1013 168 11) 2027 = 740 := by decide +kernel
theorem sm_share : expI 2027 1013 441 7 = 471 := by decide +kernel
theorem sm_in : inI 2027 1013 471 = true := by decide +kernel
theorem sm_open : overI 2027 740 (prodI 2027 (fun _ => 471) 1) = 36 := by
  refine Righ.over_is (G := 4) small_righ ?_ (by decide) (by decide) ?_
  · decide +kernel
  · decide +kernel
theorem facs_one (w : World) (x : Int) (t : TypeId) (hx : U64 x) : FacsIn (w.alloc (.cells #[.int .u64 x] t)) (some ⟨w.heap.size, 0, none⟩) 1 (fun _ => x) := by
  refine Or.inr ⟨_, _, rfl, by simp, fun j hj => ?_⟩
  match j, hj with
  | 0, _ => exact ⟨(World.cell?_alloc_mark w _ t (0, 0) 0).trans rfl, hx.1, hx.2⟩
theorem u64_of {x : Int} (h : 0 ≤ x) (h' : x ≤ 18446744073709551615) : U64 x := ⟨h, h'⟩
theorem four_sm : Four 2027 1013 4 9 := ⟨by decide, by decide, by decide, by decide, by decide, by decide, by decide, by decide⟩
/-- What awake calls. -/
theorem awk5 (a : Option Addr) :
    Hid (∀ wx, Calls Try.prog 38 #[gv 2027 1013 4 9 a 5 5, .int .u64 7] wx fun e w' => e = .returned (.int .u64 168) ∧ Old wx w') ∧
    Hid (∀ wx, Calls Try.prog 37 #[gv 2027 1013 4 9 a 5 5, .int .u64 168, .int .u64 36, .int .u64 11] wx fun e w' => e = .returned (pv 441 740) ∧ Old wx w') ∧
    Hid (∀ wx, Calls Try.prog 14 #[gv 2027 1013 4 9 a 5 5, .int .u64 7, pv 441 740] wx fun e w' => e = .returned (.int .u64 471) ∧ Old wx w') ∧
    Hid (∀ wx t, Calls Try.prog 13 #[gv 2027 1013 4 9 a 5 5, pv 441 740, .slice (some ⟨wx.heap.size, 0, none⟩) 1 1] (wx.alloc (.cells #[.int .u64 471] t)) fun e w' => e = .returned (.int .u64 36) ∧ Old wx w') := by
  refine ⟨fun wx => ?_, fun wx => ?_, fun wx => ?_, fun wx t => ?_⟩
  · exact (gkey_any 2027 1013 4 9 a 5 5 7 wx four_sm small_righ (u64_of (by decide) (by decide))).mono fun e w' ⟨h, k⟩ => ⟨by rw [h, sm_key], k⟩
  · exact (gseal_any 2027 1013 4 9 a 5 5 168 36 11 wx four_sm small_righ (u64_of (by decide) (by decide)) (u64_of (by decide) (by decide)) (u64_of (by decide) (by decide))).mono fun e w' ⟨h, k⟩ => ⟨by rw [h, sm_u, sm_v], k⟩
  · exact (gshare_any 2027 1013 4 9 a 5 5 7 441 740 wx four_sm small_righ (u64_of (by decide) (by decide)) (u64_of (by decide) (by decide))).mono fun e w' ⟨h, k⟩ => ⟨by rw [h, sm_share], k⟩
  · exact (gopen_any 2027 1013 4 9 a 5 5 441 740 _ 1 1 (fun _ => 471) _ four_sm small_righ (u64_of (by decide) (by decide)) (by decide) (by decide) (facs_one wx 471 t (u64_of (by decide) (by decide))) (fun _ _ => sm_in)).mono fun e w' ⟨h, k⟩ => ⟨by rw [h, sm_open], ((Old.refl _).alloc _).trans k⟩

theorem pair_early {x W : World} {p q : Value} {t : TypeId} (h : Old (x.alloc (.cells #[p, q] t)) W) : W.heap[x.heap.size]? = some (.cells #[p, q] t (0, 0)) := by
  rw [h.block _ (by simp)]
  exact heap_alloc_last x _
theorem Lain.far {w W : World} {l : List (Array Value × TypeId)} (h : Lain w l W) {b : Nat} (hb : w.heap.size + l.length ≤ b) (j : Nat) (v : Value) : Lain w l (W.setCell ⟨b, j, none⟩ v) := by
  refine ⟨h.old.setCell (by show w.heap.size ≤ b; omega) _, fun i hi => ?_, by simpa [World.setCell] using h.size⟩
  rw [Deep.blk_setCell_other _ _ _ _ (by show w.heap.size + i ≠ b; omega)]
  exact h.row i hi
theorem pair_done {w W : World} {l : List (Array Value × TypeId)} {b : Nat} {p q : Value} {t : TypeId} (hL : Lain w l W) (hrow : W.heap[b]? = some (.cells #[p, q] t (0, 0))) (hb : w.heap.size + l.length ≤ b) (x y : Value) :
    Lain w l ((W.setCell ⟨b, 0, none⟩ x).setCell ⟨b, 1, none⟩ y) ∧ w.heap.size + l.length ≤ b ∧ ((W.setCell ⟨b, 0, none⟩ x).setCell ⟨b, 1, none⟩ y).cell? ⟨b, 0, none⟩ = some x ∧ ((W.setCell ⟨b, 0, none⟩ x).setCell ⟨b, 1, none⟩ y).cell? ⟨b, 1, none⟩ = some y := by
  have h := set_row (set_row hrow 0 x) 1 y
  refine ⟨(hL.far hb 0 x).far hb 1 y, hb, ?_, ?_⟩
  · rw [cell_of_row _ _ 0 _ _ (0, 0) h]; simp
  · rw [cell_of_row _ _ 1 _ _ (0, 0) h]; simp
theorem pair_last {w W : World} {l : List (Array Value × TypeId)} (hL : Lain w l W) (x y : Value) (t : TypeId) :
    Lain w l (W.alloc (.cells #[x, y] t)) ∧ w.heap.size + l.length ≤ W.heap.size ∧ (W.alloc (.cells #[x, y] t)).cell? ⟨W.heap.size, 0, none⟩ = some x ∧ (W.alloc (.cells #[x, y] t)).cell? ⟨W.heap.size, 1, none⟩ = some y :=
  ⟨hL.then ((Old.refl _).alloc _), hL.size, (World.cell?_alloc_mark W _ t (0, 0) 0).trans rfl, (World.cell?_alloc_mark W _ t (0, 0) 1).trans rfl⟩

set_option maxHeartbeats 4000000 in
theorem awake5_any (w : World) : Calls Try.prog 9 #[] w fun e w' => e = .returned (.bool true) ∧ Old w w' := by
  go_enter Try.func9, Try.ntmps9
  go_upto_region 2 with (go_at_call 36; refine (small4_any _).mono ?_; rintro e w1 ⟨a, FA, rfl, hrow, ho1⟩)
  have HZ := lain1 w1 (gc 2027 1013 4 9 a 5 5) 25
  have HW : Hid (Old w w1) := ho1
  clear hrow ho1
  obtain ⟨HK, HS, HH, HP⟩ := awk5 a
  generalize hW : w1.alloc (.cells (gc 2027 1013 4 9 a 5 5) 25) = W at *
  clear hW
  have HF : Hid (∀ w', Lain w1 [(gc 2027 1013 4 9 a 5 5, 25)] w' → w'.cell? ⟨w1.heap.size, 0, none⟩ = some (.int .u64 2027) ∧ w'.cell? ⟨w1.heap.size, 1, none⟩ = some (.int .u64 1013) ∧ w'.cell? ⟨w1.heap.size, 2, none⟩ = some (.int .u64 4) ∧ w'.cell? ⟨w1.heap.size, 3, none⟩ = some (.int .u64 9) ∧ w'.cell? ⟨w1.heap.size, 4, none⟩ = some (.slice a 5 5)) := fun _ h => ⟨h.cell 0 0 (by simp) rfl, h.cell 0 1 (by simp) rfl, h.cell 0 2 (by simp) rfl, h.cell 0 3 (by simp) rfl, h.cell 0 4 (by simp) rfl⟩
  obtain ⟨d0, d1, d2, d3, d4⟩ := HF.out _ HZ
  go_cut [2] (fun pv wx => ∃ b, pv = .pointer (some ⟨b, 0, none⟩) ∧ Hid (Lain w1 [(gc 2027 1013 4 9 a 5 5, 25)] wx ∧ w1.heap.size + 1 ≤ b ∧ wx.cell? ⟨b, 0, none⟩ = some (.int .u64 441) ∧ wx.cell? ⟨b, 1, none⟩ = some (.int .u64 740)))
  case first =>
    go_region_held3 (fun w' => w'.cell? ⟨w1.heap.size, 0, none⟩ = some (.int .u64 2027) ∧ w'.cell? ⟨w1.heap.size, 1, none⟩ = some (.int .u64 1013) ∧ w'.cell? ⟨w1.heap.size, 2, none⟩ = some (.int .u64 4) ∧ w'.cell? ⟨w1.heap.size, 3, none⟩ = some (.int .u64 9) ∧ w'.cell? ⟨w1.heap.size, 4, none⟩ = some (.slice a 5 5)) (first | exact HF.out _ (by assumption) | (go_keep; done) | (and_intros <;> (refine cell_far ?_ (cell_far ?_ ?_) <;> first | assumption | omega))) (first
      | (go_at_call 38; refine (HK.out _).mono ?_; rintro e w2 ⟨rfl, ho2⟩; have hb2 : Lain w1 [(gc 2027 1013 4 9 a 5 5, 25)] w2 := Lain.then (by first | exact HZ.then (Old.refl _).drew | exact HZ.then ((Old.refl _).drew.alloc _)) ho2)
      | (go_at_call 37; refine (HS.out _).mono ?_; rintro e w3 ⟨rfl, ho3⟩; have hb3 : Lain w1 [(gc 2027 1013 4 9 a 5 5, 25)] w3 := Lain.then (by first | exact hb2 | exact hb2.then ((Old.refl _).alloc _)) ho3; obtain ⟨s0, s1, s2, s3, s4⟩ := HF.out _ hb3; (try (have hrow : w3.heap[w2.heap.size]? = some (.cells #[.int .u64 0, .int .u64 0] 27 (0, 0)) := pair_early (x := w2) ho3; have q0 : _ = some (Value.int .u64 0) := cell_of_row _ _ 0 _ _ (0, 0) hrow; have q1 : _ = some (Value.int .u64 0) := cell_of_row _ _ 1 _ _ (0, 0) hrow; have f0 := row_frozen hrow 0; have f1 := row_frozen hrow 1; have hlt : w1.heap.size + 1 ≤ w2.heap.size := hb2.size)); (try (have hrow : w3.heap[W.heap.size]? = some (.cells #[.int .u64 0, .int .u64 0] 27 (0, 0)) := pair_early (x := W.drew) (ho2.trans ho3); have q0 : _ = some (Value.int .u64 0) := cell_of_row _ _ 0 _ _ (0, 0) hrow; have q1 : _ = some (Value.int .u64 0) := cell_of_row _ _ 1 _ _ (0, 0) hrow; have f0 := row_frozen hrow 0; have f1 := row_frozen hrow 1; have hlt : w1.heap.size + 1 ≤ W.heap.size := HZ.size))))
    all_goals
      go_wp2_with fail
      go_meet
      case rel => first
        | exact ⟨_, rfl, pair_last hb3 _ _ _⟩
        | exact ⟨_, rfl, pair_done hb3 hrow hlt _ _⟩
  obtain ⟨b, rfl, HB⟩ := hcut
  clear d0 d1 d2 d3 d4
  have HT : Hid (∀ w', Old wc w' → w'.cell? ⟨w1.heap.size, 0, none⟩ = some (.int .u64 2027) ∧ w'.cell? ⟨w1.heap.size, 1, none⟩ = some (.int .u64 1013) ∧ w'.cell? ⟨w1.heap.size, 2, none⟩ = some (.int .u64 4) ∧ w'.cell? ⟨w1.heap.size, 3, none⟩ = some (.int .u64 9) ∧ w'.cell? ⟨w1.heap.size, 4, none⟩ = some (.slice a 5 5) ∧ w'.cell? ⟨b, 0, none⟩ = some (.int .u64 441) ∧ w'.cell? ⟨b, 1, none⟩ = some (.int .u64 740)) := fun w' ho => by
    obtain ⟨hl, _, c0, c1⟩ := HB.out
    obtain ⟨d0, d1, d2, d3, d4⟩ := HF.out _ (hl.then ho)
    exact ⟨d0, d1, d2, d3, d4, ho.cellOf c0, ho.cellOf c1⟩
  have HL : Hid (Old w wc) := HW.out.trans HB.out.1.old
  obtain ⟨d0, d1, d2, d3, d4, c0, c1⟩ := HT.out _ (Old.refl _)
  clear HB HF HZ HK HS
  go_upto_region 3 with fail
  go_region_held3 (fun w' => w'.cell? ⟨w1.heap.size, 0, none⟩ = some (.int .u64 2027) ∧ w'.cell? ⟨w1.heap.size, 1, none⟩ = some (.int .u64 1013) ∧ w'.cell? ⟨w1.heap.size, 2, none⟩ = some (.int .u64 4) ∧ w'.cell? ⟨w1.heap.size, 3, none⟩ = some (.int .u64 9) ∧ w'.cell? ⟨w1.heap.size, 4, none⟩ = some (.slice a 5 5) ∧ w'.cell? ⟨b, 0, none⟩ = some (.int .u64 441) ∧ w'.cell? ⟨b, 1, none⟩ = some (.int .u64 740)) (first | exact HT.out _ (by assumption) | (go_keep; done)) (first
    | (go_at_call 14; refine (HH.out _).mono ?_; rintro e w4 ⟨rfl, ho4⟩; have hq : Old wc w4 := (Old.refl _).drew.trans ho4)
    | (go_at_call 13; refine (HP.out _ _).mono ?_; rintro e w5 ⟨rfl, ho5⟩; have hq5 : Old wc w5 := hq.trans ho5))
  go_wp2_with fail
  go_ret
  exact ⟨rfl, HL.out.trans hq5⟩

end Go.Proofs.Ytmmicbdjafolpae
