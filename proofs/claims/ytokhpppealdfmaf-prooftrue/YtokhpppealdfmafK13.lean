/-
  The contracts of the document's functions of layer 6: how many exponents a claim is about.
-/
import Derived.Test.YtokhpppealdfmafK12
namespace Go.Proofs.Ytokhpppealdfmaf
open Go.RowKit

set_option linter.unusedSimpArgs false in
set_option maxRecDepth 100000 in
set_option maxHeartbeats 8000000 in
theorem rsize_any (P Q G H : Int) (a : Option Addr) (n cap : Nat) (bt : Option Addr) (nt ct : Nat) (T : Nat → Int) (bb : Option Addr) (nb cb : Nat) (BA : Nat → Option Addr) (L C : Nat → Nat) (B : Nat → Nat → Int) (w : World) (h4 : Four P Q G H) (hC : ClaimIn w bt nt ct T bb nb cb BA L C B) :
    Calls Try.prog 70 #[gv P Q G H a n cap, cv bt nt ct bb nb cb] w fun e w' => e = .returned (.int .i64 (sizeN P Q nt T nb L B : Nat)) ∧ Old w w' := by
  have HZ := lain2 w (gc P Q G H a n cap) (cc bt nt ct bb nb cb) 25 34
  have HF : Hid (∀ w', Lain w [(gc P Q G H a n cap, 25), (cc bt nt ct bb nb cb, 34)] w' → w'.cell? ⟨w.heap.size, 0, none⟩ = some (.int .u64 P) ∧ w'.cell? ⟨w.heap.size, 1, none⟩ = some (.int .u64 Q) ∧ w'.cell? ⟨w.heap.size, 2, none⟩ = some (.int .u64 G) ∧ w'.cell? ⟨w.heap.size, 3, none⟩ = some (.int .u64 H) ∧ w'.cell? ⟨w.heap.size, 4, none⟩ = some (.slice a n cap) ∧ w'.cell? ⟨w.heap.size + 1, 0, none⟩ = some (.slice bt nt ct) ∧ w'.cell? ⟨w.heap.size + 1, 1, none⟩ = some (.slice bb nb cb)) := fun _ h => ⟨h.cell 0 0 (by simp) rfl, h.cell 0 1 (by simp) rfl, h.cell 0 2 (by simp) rfl, h.cell 0 3 (by simp) rfl, h.cell 0 4 (by simp) rfl, h.cell 1 0 (by simp) rfl, h.cell 1 1 (by simp) rfl⟩
  have HC : Hid (ClaimIn w bt nt ct T bb nb cb BA L C B) := hC
  have HI : Hid (∀ x wx, U64 x → Calls Try.prog 28 #[gv P Q G H a n cap, .int .u64 x] wx fun e w' => e = .returned (.bool (inI P Q x)) ∧ Old wx w') := fun x wx hx => rin_any P Q G H x a n cap wx h4.q0 h4.q1 hx.2
  clear hC h4
  by_cases hc : ¬ (1 ≤ nt ∧ nt ≤ 64 ∧ nb = nt)
  · have HN : Hid (sizeN P Q nt T nb L B = 0) := sizeN_no fun h => hc ⟨h.1, h.2.1, h.2.2.1⟩
    have HO : Hid (Old w ((w.alloc (.cells (gc P Q G H a n cap) 25)).alloc (.cells (cc bt nt ct bb nb cb) 34))) := ((Old.refl _).alloc _).alloc _
    rcases (show nt < 1 ∨ 64 < nt ∨ (1 ≤ nt ∧ nt ≤ 64 ∧ nb ≠ nt) by omega) with h1 | h1 | ⟨h1, h2, h3⟩
    · have k1 : (nt : Int) < 1 := by omega
      clear hc
      go_enter Try.func70, Try.ntmps70
      go_wp2_with fail
      go_ret
      exact ⟨by rw [HN.out]; rfl, HO.out⟩
    · have k1 : ¬ (nt : Int) < 1 := by omega
      have k2 : (64 : Int) < (nt : Int) := by omega
      clear hc
      go_enter Try.func70, Try.ntmps70
      go_wp2_with fail
      go_ret
      exact ⟨by rw [HN.out]; rfl, HO.out⟩
    · have k1 : ¬ (nt : Int) < 1 := by omega
      have k2 : ¬ (64 : Int) < (nt : Int) := by omega
      have k3 : ¬ (nb : Int) = (nt : Int) := by omega
      clear hc
      go_enter Try.func70, Try.ntmps70
      go_wp2_with fail
      go_ret
      exact ⟨by rw [HN.out]; rfl, HO.out⟩
  obtain ⟨h1, h2, h3⟩ := Classical.not_not.1 hc
  clear hc
  subst h3
  rcases HC.out.tar with h0 | ⟨tb, tof, hqt, _, hrt⟩
  · omega
  rcases HC.out.bas with h0 | ⟨lb, lo, hqb, _, hrb⟩
  · omega
  subst hqt hqb
  have HRT : Hid (∀ j, j < nb → ∀ w', Old w w' → w'.cell? ⟨tb, tof + j, none⟩ = some (.int .u64 (T j))) := fun j hj w' ho => ho.cellOf (hrt j hj).1
  have HRB : Hid (∀ j, j < nb → ∀ w', Old w w' → w'.cell? ⟨lb, lo + j, none⟩ = some (.slice (BA j) (L j) (C j))) := fun j hj w' ho => ho.cellOf (hrb j hj).1
  have HRF : Hid (∀ j, j < nb → FacsIn w (BA j) (L j) (B j)) := fun j hj => (hrb j hj).2.2.2
  have HTU : Hid (∀ j, j < nb → U64 (T j)) := fun j hj => (hrt j hj).2
  clear hrt hrb
  obtain ⟨nn, hnn⟩ : ∃ nn : Nat, nn = L 0 := ⟨_, rfl⟩
  have k1 : ¬ (nb : Int) < 1 := by omega
  have k2 : ¬ (64 : Int) < (nb : Int) := by omega
  have k4 : (0 : Int) < (nb : Int) := by omega
  have k5 : 0 < nb := by omega
  go_enter Try.func70, Try.ntmps70
  go_upto_region 1 with fail
  generalize hW : (w.alloc (.cells (gc P Q G H a n cap) 25)).alloc (.cells (cc (some ⟨tb, tof, none⟩) nb ct (some ⟨lb, lo, none⟩) nb cb) 34) = W at *
  clear hW
  have HW0 : Hid (Old w W) := HZ.old
  obtain ⟨d0, d1, d2, d3, d4, t0, t1⟩ := HF.out _ HZ
  have l0 := HRB.out 0 k5 _ HW0.out
  rw [← hnn, Nat.add_zero] at l0
  by_cases hl : nn < 1
  · have HN : Hid (sizeN P Q nb T nb L B = 0) := sizeN_no fun h => by have := h.2.2.2.1; omega
    have k6 : (nn : Int) < 1 := by omega
    clear hnn
    go_wp2_with fail
    go_ret
    exact ⟨by rw [HN.out]; rfl, HW0.out⟩
  by_cases hl2 : 64 < nn
  · have HN : Hid (sizeN P Q nb T nb L B = 0) := sizeN_no fun h => by have := h.2.2.2.2.1; omega
    have k6 : ¬ (nn : Int) < 1 := by omega
    have k7 : (64 : Int) < (nn : Int) := by omega
    clear hnn
    go_wp2_with fail
    go_ret
    exact ⟨by rw [HN.out]; rfl, HW0.out⟩
  have k6 : ¬ (nn : Int) < 1 := by omega
  have k7 : ¬ (64 : Int) < (nn : Int) := by omega
  have HNO : Hid (∀ j, j < nb → ¬ (inI P Q (T j) = true ∧ L j = nn ∧ ∀ i, i < nn → inI P Q (B j i) = true) → sizeN P Q nb T nb L B = 0) := fun j hj hn => sizeN_no fun h => hn (by have := rowsB_iff.1 h.2.2.2.2.2 j hj; rw [← hnn] at this; exact this)
  have HYES : Hid ((∀ j, j < nb → inI P Q (T j) = true ∧ L j = nn ∧ ∀ i, i < nn → inI P Q (B j i) = true) → sizeN P Q nb T nb L B = nn) := fun hy => by
    unfold sizeN
    rw [← hnn, if_pos ⟨h1, h2, rfl, by omega, by omega, rowsB_iff.2 hy⟩]
  clear hnn
  go_wp2_with fail
  clear d0 d1 d2 d3 d4 t0 t1 l0
  clear k1 k2 k4 k5 k6 k7
  go_loopw [6] (fun jv wx => ∃ j : Nat, jv = .int .i64 (j : Int) ∧ j ≤ nb ∧ Hid (Old W wx) ∧ Hid (∀ i, i < j → inI P Q (T i) = true ∧ L i = nn ∧ ∀ k, k < nn → inI P Q (B i k) = true)) (fun jv _ => nb - (intOf jv).toNat)
  case atStart => exact ⟨0, rfl, Nat.zero_le _, Old.refl _, fun j hj => by omega⟩
  case round =>
    obtain ⟨j, rfl, hj, HW, HJ⟩ := hrel
    by_cases hlt : j < nb
    · have HT : Hid (∀ w', Old W w' → w'.cell? ⟨w.heap.size, 0, none⟩ = some (.int .u64 P) ∧ w'.cell? ⟨w.heap.size, 1, none⟩ = some (.int .u64 Q) ∧ w'.cell? ⟨w.heap.size, 2, none⟩ = some (.int .u64 G) ∧ w'.cell? ⟨w.heap.size, 3, none⟩ = some (.int .u64 H) ∧ w'.cell? ⟨w.heap.size, 4, none⟩ = some (.slice a n cap) ∧ w'.cell? ⟨w.heap.size + 1, 0, none⟩ = some (.slice (some ⟨tb, tof, none⟩) nb ct) ∧ w'.cell? ⟨w.heap.size + 1, 1, none⟩ = some (.slice (some ⟨lb, lo, none⟩) nb cb) ∧ w'.cell? ⟨tb, tof + j, none⟩ = some (.int .u64 (T j)) ∧ w'.cell? ⟨lb, lo + j, none⟩ = some (.slice (BA j) (L j) (C j))) := fun w' ho => by
        obtain ⟨d0, d1, d2, d3, d4, t0, t1⟩ := HF.out _ (HZ.then ho)
        exact ⟨d0, d1, d2, d3, d4, t0, t1, HRT.out j hlt _ (HW0.out.trans ho), HRB.out j hlt _ (HW0.out.trans ho)⟩
      obtain ⟨d0, d1, d2, d3, d4, t0, t1, ct0, cl0⟩ := HT.out _ HW.out
      have HIj : Hid (∀ wx, Calls Try.prog 28 #[gv P Q G H a n cap, .int .u64 (T j)] wx fun e w' => e = .returned (.bool (inI P Q (T j))) ∧ Old wx w') := fun wx => HI.out (T j) wx (HTU.out j hlt)
      have k9 : (j : Int) < (nb : Int) := by omega
      cases hin : inI P Q (T j)
      · have HN : Hid (sizeN P Q nb T nb L B = 0) := HNO.out j hlt fun h => by rw [hin] at h; exact Bool.noConfusion h.1
        rw [hin] at HIj
        clear hin
        go_upto_region 9 with fail
        refine wp_region_held_drew (S := (fun w' => w'.cell? ⟨w.heap.size, 0, none⟩ = some (.int .u64 P) ∧ w'.cell? ⟨w.heap.size, 1, none⟩ = some (.int .u64 Q) ∧ w'.cell? ⟨w.heap.size, 2, none⟩ = some (.int .u64 G) ∧ w'.cell? ⟨w.heap.size, 3, none⟩ = some (.int .u64 H) ∧ w'.cell? ⟨w.heap.size, 4, none⟩ = some (.slice a n cap) ∧ w'.cell? ⟨w.heap.size + 1, 0, none⟩ = some (.slice (some ⟨tb, tof, none⟩) nb ct) ∧ w'.cell? ⟨w.heap.size + 1, 1, none⟩ = some (.slice (some ⟨lb, lo, none⟩) nb cb) ∧ w'.cell? ⟨tb, tof + j, none⟩ = some (.int .u64 (T j)) ∧ w'.cell? ⟨lb, lo + j, none⟩ = some (.slice (BA j) (L j) (C j)))) (by kernel_rfl) (HT.out _ HW.out.drew) (fun hHeld => ?_)
        refine wpAnyH_take (i := 0) (v := ?_) rfl (by kernel_rfl) (by kernel_rfl) (by kernel_rfl) (fun _ _ _ h => h) (Or.inl ⟨by rfl, ?_⟩) (by assumption) ?_
        rotate_left
        · intro wz hSw
          try dsimp only at hSw
          go_simp
          try rfl
        simp only [Act.put, List.getElem_toArray, List.getElem_cons_zero, List.getElem_cons_succ, List.setIfInBounds_toArray, List.set_cons_zero, List.set_cons_succ]
        refine wpAnyH_take (i := 1) (v := ?_) rfl (by kernel_rfl) (by kernel_rfl) (by kernel_rfl) (fun _ _ _ h => h) (Or.inl ⟨by rfl, ?_⟩) (by assumption) ?_
        rotate_left
        · intro wz hSw
          try dsimp only at hSw
          go_simp
          try rfl
        simp only [Act.put, List.getElem_toArray, List.getElem_cons_zero, List.getElem_cons_succ, List.setIfInBounds_toArray, List.set_cons_zero, List.set_cons_succ]
        refine wpAnyH_take (i := 2) (v := ?_) rfl (by kernel_rfl) (by kernel_rfl) (by kernel_rfl) (fun _ _ _ h => h) (Or.inl ⟨by rfl, ?_⟩) (by assumption) ?_
        rotate_left
        · intro wz hSw
          try dsimp only at hSw
          go_simp
          try rfl
        simp only [Act.put, List.getElem_toArray, List.getElem_cons_zero, List.getElem_cons_succ, List.setIfInBounds_toArray, List.set_cons_zero, List.set_cons_succ]
        refine wpAnyH_take (i := 3) (v := ?_) rfl (by kernel_rfl) (by kernel_rfl) (by kernel_rfl) (fun _ _ _ h => h) (Or.inl ⟨by rfl, ?_⟩) (by assumption) ?_
        rotate_left
        · intro wz hSw
          try dsimp only at hSw
          go_simp
          try rfl
        simp only [Act.put, List.getElem_toArray, List.getElem_cons_zero, List.getElem_cons_succ, List.setIfInBounds_toArray, List.set_cons_zero, List.set_cons_succ]
        refine wpAnyH_take (i := 4) (v := ?_) rfl (by kernel_rfl) (by kernel_rfl) (by kernel_rfl) (fun _ _ _ h => h) (Or.inl ⟨by rfl, ?_⟩) (by assumption) ?_
        rotate_left
        · intro wz hSw
          try dsimp only at hSw
          go_simp
          try rfl
        simp only [Act.put, List.getElem_toArray, List.getElem_cons_zero, List.getElem_cons_succ, List.setIfInBounds_toArray, List.set_cons_zero, List.set_cons_succ]
        refine wpAnyH_take (i := 5) (v := ?_) rfl (by kernel_rfl) (by kernel_rfl) (by kernel_rfl) (fun _ _ _ h => h) (Or.inl ⟨by rfl, ?_⟩) (by assumption) ?_
        rotate_left
        · intro wz hSw
          try dsimp only at hSw
          go_simp
          try rfl
        simp only [Act.put, List.getElem_toArray, List.getElem_cons_zero, List.getElem_cons_succ, List.setIfInBounds_toArray, List.set_cons_zero, List.set_cons_succ]
        refine wpAnyH_ready (rs := [6]) (by kernel_rfl) (by simp) ?_
        refine AllReadyH.cons rfl (fun K hK => ?_) AllReadyH.nil
        rw [if_pos (by rfl)]
        go_simp
        refine (HIj.out _).mono ?_
        rintro e w4 ⟨rfl, o4⟩
        have h4 : Old W w4 := HW.out.drew.trans o4
        refine hK.out _ _ (HT.out _ h4) (fun hHeld => ?_)
        clear hK K
        refine wpAnyH_take (i := 7) (v := ?_) rfl (by kernel_rfl) (by kernel_rfl) (by kernel_rfl) (fun _ _ _ h => h) (Or.inl ⟨by rfl, ?_⟩) (by assumption) ?_
        rotate_left
        · intro wz hSw
          try dsimp only at hSw
          go_simp
          try rfl
        simp only [Act.put, List.getElem_toArray, List.getElem_cons_zero, List.getElem_cons_succ, List.setIfInBounds_toArray, List.set_cons_zero, List.set_cons_succ]
        refine wpAnyH_take (i := 8) (v := ?_) rfl (by kernel_rfl) (by kernel_rfl) (by kernel_rfl) (fun _ _ _ h => h) (Or.inl ⟨by rfl, ?_⟩) (by assumption) ?_
        rotate_left
        · intro wz hSw
          try dsimp only at hSw
          go_simp
          try rfl
        simp only [Act.put, List.getElem_toArray, List.getElem_cons_zero, List.getElem_cons_succ, List.setIfInBounds_toArray, List.set_cons_zero, List.set_cons_succ]
        refine wpAnyH_take (i := 9) rfl (by kernel_rfl) (by kernel_rfl) (by kernel_rfl) (fun _ _ _ h => h) (Or.inr ⟨by rfl, rfl⟩) (by assumption) ?_
        simp only [Act.put, List.getElem_toArray, List.getElem_cons_zero, List.getElem_cons_succ, List.setIfInBounds_toArray, List.set_cons_zero, List.set_cons_succ]
        refine wpAnyH_take (i := 10) rfl (by kernel_rfl) (by kernel_rfl) (by kernel_rfl) (fun _ _ _ h => h) (Or.inr ⟨by rfl, rfl⟩) (by assumption) ?_
        simp only [Act.put, List.getElem_toArray, List.getElem_cons_zero, List.getElem_cons_succ, List.setIfInBounds_toArray, List.set_cons_zero, List.set_cons_succ]
        refine wpAnyH_take (i := 11) rfl (by kernel_rfl) (by kernel_rfl) (by kernel_rfl) (fun _ _ _ h => h) (Or.inr ⟨by rfl, rfl⟩) (by assumption) ?_
        simp only [Act.put, List.getElem_toArray, List.getElem_cons_zero, List.getElem_cons_succ, List.setIfInBounds_toArray, List.set_cons_zero, List.set_cons_succ]
        refine wpAnyH_take (i := 12) rfl (by kernel_rfl) (by kernel_rfl) (by kernel_rfl) (fun _ _ _ h => h) (Or.inr ⟨by rfl, rfl⟩) (by assumption) ?_
        simp only [Act.put, List.getElem_toArray, List.getElem_cons_zero, List.getElem_cons_succ, List.setIfInBounds_toArray, List.set_cons_zero, List.set_cons_succ]
        refine wpAnyH_take (i := 13) rfl (by kernel_rfl) (by kernel_rfl) (by kernel_rfl) (fun _ _ _ h => h) (Or.inr ⟨by rfl, rfl⟩) (by assumption) ?_
        simp only [Act.put, List.getElem_toArray, List.getElem_cons_zero, List.getElem_cons_succ, List.setIfInBounds_toArray, List.set_cons_zero, List.set_cons_succ]
        refine wpAnyH_take (i := 14) rfl (by kernel_rfl) (by kernel_rfl) (by kernel_rfl) (fun _ _ _ h => h) (Or.inr ⟨by rfl, rfl⟩) (by assumption) ?_
        simp only [Act.put, List.getElem_toArray, List.getElem_cons_zero, List.getElem_cons_succ, List.setIfInBounds_toArray, List.set_cons_zero, List.set_cons_succ]
        refine wpAnyH_take (i := 15) rfl (by kernel_rfl) (by kernel_rfl) (by kernel_rfl) (fun _ _ _ h => h) (Or.inr ⟨by rfl, rfl⟩) (by assumption) ?_
        simp only [Act.put, List.getElem_toArray, List.getElem_cons_zero, List.getElem_cons_succ, List.setIfInBounds_toArray, List.set_cons_zero, List.set_cons_succ]
        refine wpAnyH_take (i := 16) rfl (by kernel_rfl) (by kernel_rfl) (by kernel_rfl) (fun _ _ _ h => h) (Or.inr ⟨by rfl, rfl⟩) (by assumption) ?_
        simp only [Act.put, List.getElem_toArray, List.getElem_cons_zero, List.getElem_cons_succ, List.setIfInBounds_toArray, List.set_cons_zero, List.set_cons_succ]
        refine wpAnyH_take (i := 17) (v := ?_) rfl (by kernel_rfl) (by kernel_rfl) (by kernel_rfl) (fun _ _ _ h => h) (Or.inl ⟨by rfl, ?_⟩) (by assumption) ?_
        rotate_left
        · intro wz hSw
          try dsimp only at hSw
          go_simp
          try rfl
        simp only [Act.put, List.getElem_toArray, List.getElem_cons_zero, List.getElem_cons_succ, List.setIfInBounds_toArray, List.set_cons_zero, List.set_cons_succ]
        refine wpAnyH_done (by kernel_rfl) ?_ _
        go_wp2_with fail
        go_ret
        exact ⟨by rw [HN.out]; rfl, HW0.out.trans h4⟩
      by_cases hL : L j = nn
      · have HLj : Hid (L j = nn) := hL
        have HIN : Hid (inI P Q (T j) = true) := hin
        rw [hin] at HIj
        rw [hL] at cl0 HT
        clear hin
        rcases HRF.out j hlt with h0 | ⟨rb, ro, hq, _, hr⟩
        · omega
        rw [hq] at cl0 HT
        have HRR : Hid (∀ k, k < nn → ∀ w', Old w w' → w'.cell? ⟨rb, ro + k, none⟩ = some (.int .u64 (B j k))) := fun k hk w' ho => ho.cellOf (hr k (by omega)).1
        have HRU : Hid (∀ k, k < nn → U64 (B j k)) := fun k hk => (hr k (by omega)).2
        clear hr hq hL
        go_upto_region 9 with fail
        go_region_held3 (fun w' => w'.cell? ⟨w.heap.size, 0, none⟩ = some (.int .u64 P) ∧ w'.cell? ⟨w.heap.size, 1, none⟩ = some (.int .u64 Q) ∧ w'.cell? ⟨w.heap.size, 2, none⟩ = some (.int .u64 G) ∧ w'.cell? ⟨w.heap.size, 3, none⟩ = some (.int .u64 H) ∧ w'.cell? ⟨w.heap.size, 4, none⟩ = some (.slice a n cap) ∧ w'.cell? ⟨w.heap.size + 1, 0, none⟩ = some (.slice (some ⟨tb, tof, none⟩) nb ct) ∧ w'.cell? ⟨w.heap.size + 1, 1, none⟩ = some (.slice (some ⟨lb, lo, none⟩) nb cb) ∧ w'.cell? ⟨tb, tof + j, none⟩ = some (.int .u64 (T j)) ∧ w'.cell? ⟨lb, lo + j, none⟩ = some (.slice (some ⟨rb, ro, none⟩) nn (C j))) (first | exact HT.out _ h4 | exact HT.out _ HW.out.drew) ((go_at_call 28; refine (HIj.out _).mono ?_; rintro e w4 ⟨rfl, o4⟩; have h4 : Old W w4 := HW.out.drew.trans o4))
        have HW4 : Hid (Old W w4) := h4
        clear h4 o4
        clear d0 d1 d2 d3 d4 t0 t1 ct0 cl0
        go_wp2_with fail
        go_loopw [7] (fun kv wx => ∃ k : Nat, kv = .int .i64 (k : Int) ∧ k ≤ nn ∧ Hid (Old W wx) ∧ Hid (∀ i, i < k → inI P Q (B j i) = true)) (fun kv _ => nn - (intOf kv).toNat)
        case atStart => exact ⟨0, rfl, Nat.zero_le _, HW4, fun i hi => by omega⟩
        case round =>
          obtain ⟨k, rfl, hk, HWk, HK⟩ := hrel
          by_cases hlk : k < nn
          · have HT' : Hid (∀ w', Old W w' → w'.cell? ⟨w.heap.size, 0, none⟩ = some (.int .u64 P) ∧ w'.cell? ⟨w.heap.size, 1, none⟩ = some (.int .u64 Q) ∧ w'.cell? ⟨w.heap.size, 2, none⟩ = some (.int .u64 G) ∧ w'.cell? ⟨w.heap.size, 3, none⟩ = some (.int .u64 H) ∧ w'.cell? ⟨w.heap.size, 4, none⟩ = some (.slice a n cap) ∧ w'.cell? ⟨w.heap.size + 1, 0, none⟩ = some (.slice (some ⟨tb, tof, none⟩) nb ct) ∧ w'.cell? ⟨w.heap.size + 1, 1, none⟩ = some (.slice (some ⟨lb, lo, none⟩) nb cb) ∧ w'.cell? ⟨lb, lo + j, none⟩ = some (.slice (some ⟨rb, ro, none⟩) nn (C j)) ∧ w'.cell? ⟨rb, ro + k, none⟩ = some (.int .u64 (B j k))) := fun w' ho => by
              obtain ⟨d0, d1, d2, d3, d4, t0, t1, _, cl⟩ := HT.out _ ho
              exact ⟨d0, d1, d2, d3, d4, t0, t1, cl, HRR.out k hlk _ (HW0.out.trans ho)⟩
            obtain ⟨d0, d1, d2, d3, d4, t0, t1, cl1, cb1⟩ := HT'.out _ HWk.out
            have HIk : Hid (∀ wx, Calls Try.prog 28 #[gv P Q G H a n cap, .int .u64 (B j k)] wx fun e w' => e = .returned (.bool (inI P Q (B j k))) ∧ Old wx w') := fun wx => HI.out (B j k) wx (HRU.out k hlk)
            cases hb : inI P Q (B j k)
            · have HN : Hid (sizeN P Q nb T nb L B = 0) := HNO.out j hlt fun h => by have := h.2.2 k hlk; rw [hb] at this; exact Bool.noConfusion this
              rw [hb] at HIk
              clear hb
              go_upto_region 14 with fail
              go_region_held3 (fun w' => w'.cell? ⟨w.heap.size, 0, none⟩ = some (.int .u64 P) ∧ w'.cell? ⟨w.heap.size, 1, none⟩ = some (.int .u64 Q) ∧ w'.cell? ⟨w.heap.size, 2, none⟩ = some (.int .u64 G) ∧ w'.cell? ⟨w.heap.size, 3, none⟩ = some (.int .u64 H) ∧ w'.cell? ⟨w.heap.size, 4, none⟩ = some (.slice a n cap) ∧ w'.cell? ⟨w.heap.size + 1, 0, none⟩ = some (.slice (some ⟨tb, tof, none⟩) nb ct) ∧ w'.cell? ⟨w.heap.size + 1, 1, none⟩ = some (.slice (some ⟨lb, lo, none⟩) nb cb) ∧ w'.cell? ⟨lb, lo + j, none⟩ = some (.slice (some ⟨rb, ro, none⟩) nn (C j)) ∧ w'.cell? ⟨rb, ro + k, none⟩ = some (.int .u64 (B j k))) (first | exact HT'.out _ h5 | exact HT'.out _ HWk.out.drew) ((go_at_call 28; refine (HIk.out _).mono ?_; rintro e w5 ⟨rfl, o5⟩; have h5 : Old W w5 := HWk.out.drew.trans o5))
              go_wp2_with fail
              go_ret
              exact ⟨by rw [HN.out]; rfl, HW0.out.trans h5⟩
            · have HB : Hid (inI P Q (B j k) = true) := hb
              rw [hb] at HIk
              clear hb
              go_upto_region 14 with fail
              go_region_held3 (fun w' => w'.cell? ⟨w.heap.size, 0, none⟩ = some (.int .u64 P) ∧ w'.cell? ⟨w.heap.size, 1, none⟩ = some (.int .u64 Q) ∧ w'.cell? ⟨w.heap.size, 2, none⟩ = some (.int .u64 G) ∧ w'.cell? ⟨w.heap.size, 3, none⟩ = some (.int .u64 H) ∧ w'.cell? ⟨w.heap.size, 4, none⟩ = some (.slice a n cap) ∧ w'.cell? ⟨w.heap.size + 1, 0, none⟩ = some (.slice (some ⟨tb, tof, none⟩) nb ct) ∧ w'.cell? ⟨w.heap.size + 1, 1, none⟩ = some (.slice (some ⟨lb, lo, none⟩) nb cb) ∧ w'.cell? ⟨lb, lo + j, none⟩ = some (.slice (some ⟨rb, ro, none⟩) nn (C j)) ∧ w'.cell? ⟨rb, ro + k, none⟩ = some (.int .u64 (B j k))) (first | exact HT'.out _ h5 | exact HT'.out _ HWk.out.drew) ((go_at_call 28; refine (HIk.out _).mono ?_; rintro e w5 ⟨rfl, o5⟩; have h5 : Old W w5 := HWk.out.drew.trans o5))
              have HW5 : Hid (Old W w5) := h5
              clear h5 o5
              go_wp2_with fail
              go_roundw
              case rel => exact ⟨k + 1, idx_next k, by omega, HW5, upto_succ HK.out HB.out⟩
              case measure => simp [intOf]; omega
          · have he : nn = k := by omega
            subst he
            go_wp2_with fail
            go_roundw
            case rel => exact ⟨j + 1, idx_next j, by omega, HWk, upto_succ HJ.out ⟨HIN.out, HLj.out, HK.out⟩⟩
            case measure => simp [intOf]; omega
      · have HN : Hid (sizeN P Q nb T nb L B = 0) := HNO.out j hlt fun h => hL h.2.1
        rw [hin] at HIj
        have k8 : ¬ (L j : Int) = (nn : Int) := by omega
        clear hin
        go_upto_region 9 with fail
        go_region_held3 (fun w' => w'.cell? ⟨w.heap.size, 0, none⟩ = some (.int .u64 P) ∧ w'.cell? ⟨w.heap.size, 1, none⟩ = some (.int .u64 Q) ∧ w'.cell? ⟨w.heap.size, 2, none⟩ = some (.int .u64 G) ∧ w'.cell? ⟨w.heap.size, 3, none⟩ = some (.int .u64 H) ∧ w'.cell? ⟨w.heap.size, 4, none⟩ = some (.slice a n cap) ∧ w'.cell? ⟨w.heap.size + 1, 0, none⟩ = some (.slice (some ⟨tb, tof, none⟩) nb ct) ∧ w'.cell? ⟨w.heap.size + 1, 1, none⟩ = some (.slice (some ⟨lb, lo, none⟩) nb cb) ∧ w'.cell? ⟨tb, tof + j, none⟩ = some (.int .u64 (T j)) ∧ w'.cell? ⟨lb, lo + j, none⟩ = some (.slice (BA j) (L j) (C j))) (first | exact HT.out _ h4 | exact HT.out _ HW.out.drew) ((go_at_call 28; refine (HIj.out _).mono ?_; rintro e w4 ⟨rfl, o4⟩; have h4 : Old W w4 := HW.out.drew.trans o4))
        go_wp2_with fail
        go_ret
        exact ⟨by rw [HN.out]; rfl, HW0.out.trans h4⟩
    · have he : nb = j := by omega
      subst he
      have HN : Hid (sizeN P Q nb T nb L B = nn) := HYES.out HJ.out
      obtain ⟨d0, d1, d2, d3, d4, t0, t1⟩ := HF.out _ (HZ.then HW.out)
      go_wp2_with fail
      go_ret
      exact ⟨by rw [HN.out]; rfl, HW0.out.trans HW.out⟩

end Go.Proofs.Ytokhpppealdfmaf
