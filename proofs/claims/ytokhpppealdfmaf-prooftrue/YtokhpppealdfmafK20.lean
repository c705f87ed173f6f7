/-
  The contract of linear.Fake.
-/
import Derived.Test.YtokhpppealdfmafK19
namespace Go.Proofs.Ytokhpppealdfmaf
open Go.RowKit

/-- Turned up to i, as it was behind. -/
def fromTo (i : Nat) (F O : Nat → Int) : Nat → Int := fun k => if k < i then O k else F k
theorem fromTo_at (i : Nat) (F O : Nat → Int) : fromTo i F O i = F i := by simp [fromTo]
theorem Full.start {w : World} {b n : Nat} {F : Nat → Int} (O : Nat → Int) (h : Full w b n F) : Full w b n (fromTo 0 F O) := h.congr fun k _ => by simp [fromTo]
theorem Full.stop {w : World} {b n : Nat} {F O : Nat → Int} (h : Full w b n (fromTo n F O)) : Full w b n O := h.congr fun k hk => by simp [fromTo, hk]
theorem Full.step {w : World} {b n i : Nat} {F O : Nat → Int} (h : Full w b n (fromTo i F O)) : Full (w.setCell ⟨b, i, none⟩ (.int .u64 (O i))) b n (fromTo (i + 1) F O) :=
  (h.set i (O i)).congr fun k _ => by
    unfold fromTo
    by_cases hk : k = i
    · subst hk; simp
    · rw [if_neg hk]
      by_cases h2 : k < i
      · rw [if_pos h2, if_pos (by omega)]
      · rw [if_neg h2, if_neg (by omega)]
theorem Full.at {w : World} {b n i : Nat} {F O : Nat → Int} (h : Full w b n (fromTo i F O)) (hi : i < n) : w.cell? ⟨b, i, none⟩ = some (.int .u64 (F i)) := by
  have := h.cell i hi
  rwa [fromTo_at] at this

set_option linter.unusedSimpArgs false in
set_option maxRecDepth 100000 in
set_option maxHeartbeats 8000000 in
theorem lfake_gen (P Q G H : Int) (a : Option Addr) (n cap : Nat) (bt : Option Addr) (nt ct : Nat) (T : Nat → Int) (bb : Option Addr) (nb cb : Nat) (BA : Nat → Option Addr) (L C : Nat → Nat) (B : Nat → Nat → Int) (ch : Int) (bz : Option Addr) (nz cz : Nat) (X : Nat → Int) (w : World) (h4 : Four P Q G H) (hr : Righ P Q G) (he : U64 ch) (hC : ClaimIn w bt nt ct T bb nb cb BA L C B) (hX : FacsIn w bz nz X) :
    Calls Try.prog 16 #[gv P Q G H a n cap, cv bt nt ct bb nb cb, .int .u64 ch, .slice bz nz cz] w (Gives w (fitsB (sizeN P Q nt T nb L B) nz) nt (fun j => overI P (imI P Q (B j) X (sizeN P Q nt T nb L B)) (expI P Q (T j) ch))) := by
  have HZ := lain2 w (gc P Q G H a n cap) (cc bt nt ct bb nb cb) 25 34
  have HT : Hid (∀ w', Old ((w.alloc (.cells (gc P Q G H a n cap) 25)).alloc (.cells (cc bt nt ct bb nb cb) 34)) w' → w'.cell? ⟨w.heap.size, 0, none⟩ = some (.int .u64 P) ∧ w'.cell? ⟨w.heap.size, 1, none⟩ = some (.int .u64 Q) ∧ w'.cell? ⟨w.heap.size, 2, none⟩ = some (.int .u64 G) ∧ w'.cell? ⟨w.heap.size, 3, none⟩ = some (.int .u64 H) ∧ w'.cell? ⟨w.heap.size, 4, none⟩ = some (.slice a n cap) ∧ w'.cell? ⟨w.heap.size + 1, 0, none⟩ = some (.slice bt nt ct) ∧ w'.cell? ⟨w.heap.size + 1, 1, none⟩ = some (.slice bb nb cb)) := fun w' ho => by
    have h := HZ.then ho
    exact ⟨h.cell 0 0 (by simp) rfl, h.cell 0 1 (by simp) rfl, h.cell 0 2 (by simp) rfl, h.cell 0 3 (by simp) rfl, h.cell 0 4 (by simp) rfl, h.cell 1 0 (by simp) rfl, h.cell 1 1 (by simp) rfl⟩
  have HC : Hid (FacsIn w bt nt T) := hC.tar
  have HIm : Hid (∀ wx, Old w wx → Calls Try.prog 15 #[gv P Q G H a n cap, cv bt nt ct bb nb cb, .slice bz nz cz] wx (GivesF wx (fitsB (sizeN P Q nt T nb L B) nz) nt (fun j => imI P Q (B j) X (sizeN P Q nt T nb L B)))) := fun wx ho => limage_gen P Q G H a n cap bt nt ct T bb nb cb BA L C B bz nz cz X wx h4 hr (hC.old ho) (hX.old ho)
  have mt : nt ≤ 9223372036854775807 := Nat.le_trans hC.tc hC.tm
  obtain ⟨F, hF⟩ : ∃ F : Nat → Int, F = fun j => imI P Q (B j) X (sizeN P Q nt T nb L B) := ⟨_, rfl⟩
  obtain ⟨E, hE⟩ : ∃ E : Nat → Int, E = fun j => expI P Q (T j) ch := ⟨_, rfl⟩
  obtain ⟨O, hO⟩ : ∃ O : Nat → Int, O = fun j => overI P (F j) (E j) := ⟨_, rfl⟩
  have hOO : (fun j => overI P (imI P Q (B j) X (sizeN P Q nt T nb L B)) (expI P Q (T j) ch)) = O := by rw [hO, hE, hF]
  rw [hOO]
  rw [← hF] at HIm
  have HNT : Hid (fitsB (sizeN P Q nt T nb L B) nz = true → 0 < nt) := fun h => (sizeN_claim (fitsB_iff.1 h).1).t1
  have HEx : Hid (∀ j wx, j < nt → Calls Try.prog 54 #[gv P Q G H a n cap, .int .u64 (T j), .int .u64 ch] wx fun e w' => e = .returned (.int .u64 (E j)) ∧ Old wx w') := fun j wx hj => (gexp_any P Q G H (T j) ch a n cap wx h4 hr (hC.tar.u64 j hj).1 (hC.tar.u64 j hj).2 he.1 he.2).mono fun e w' ⟨h, k⟩ => ⟨by rw [h, hE], k⟩
  have HOv : Hid (fitsB (sizeN P Q nt T nb L B) nz = true → ∀ j wx, j < nt → Calls Try.prog 53 #[gv P Q G H a n cap, .int .u64 (F j), .int .u64 (E j)] wx fun e w' => e = .returned (.int .u64 (O j)) ∧ Old wx w') := fun hf j wx hj => (gover_any P Q G H a n cap (F j) (E j) wx h4 hr (by rw [hF]; exact u64_prod _ _ _) (by rw [hE]; exact hr.exp_in ((sizeN_claim (fitsB_iff.1 hf).1).tin j hj))).mono fun e w' ⟨h, k⟩ => ⟨by rw [h, hO], k⟩
  clear hOO hO hE hF h4 hr he hC hX
  generalize fitsB (sizeN P Q nt T nb L B) nz = ok at *
  go_enter Try.func16, Try.ntmps16
  go_upto_region 1 with fail
  have HW0 : Hid (Old w ((w.alloc (.cells (gc P Q G H a n cap) 25)).alloc (.cells (cc bt nt ct bb nb cb) 34))) := HZ.old
  generalize hW : (w.alloc (.cells (gc P Q G H a n cap) 25)).alloc (.cells (cc bt nt ct bb nb cb) 34) = W at *
  clear hW
  obtain ⟨d0, d1, d2, d3, d4, t0, t1⟩ := HT.out _ (Old.refl _)
  cases ok with
  | false =>
    go_upto_region 2 with (go_at_call 15; refine (HIm.out _ HW0.out).mono ?_; rintro e w2 ⟨h2, ⟨_, rfl⟩ | ⟨hno, _⟩⟩; rotate_left; exact absurd hno (by decide))
    clear d0 d1 d2 d3 d4 t0 t1
    go_wp2_with fail
    go_ret2
    exact gives_no rfl (HW0.out.trans h2)
  | true =>
    have hpos := HNT.out rfl
    rcases HC.out with h0 | ⟨tb, tof, hqt, _, hrt⟩
    · omega
    subst hqt
    have HRT : Hid (∀ j, j < nt → ∀ w', Old w w' → w'.cell? ⟨tb, tof + j, none⟩ = some (.int .u64 (T j))) := fun j hj w' ho => ho.cellOf (hrt j hj).1
    clear hrt
    go_upto_region 2 with (go_at_call 15; refine (HIm.out _ HW0.out).mono ?_; rintro e w2 ⟨h2, ⟨hno, _⟩ | ⟨_, bf, hbf, rfl, hff⟩⟩; exact absurd hno (by decide))
    have HFu : Hid (Full w2 bf nt (fromTo 0 F O)) := hff.start O
    have HW2 : Hid (Old W w2) := h2
    clear d0 d1 d2 d3 d4 t0 t1 hff h2
    obtain ⟨d0, d1, d2, d3, d4, t0, t1⟩ := HT.out _ HW2.out
    go_upto_region 5 with fail
    clear d0 d1 d2 d3 d4 t0 t1
    go_loopw [26] (fun iv wx => ∃ i : Nat, iv = .int .i64 (i : Int) ∧ i ≤ nt ∧ Hid (Full wx bf nt (fromTo i F O)) ∧ Hid (Old W wx)) (fun iv _ => nt - (intOf iv).toNat)
    case atStart => exact ⟨0, rfl, Nat.zero_le _, HFu, HW2⟩
    case round =>
      obtain ⟨i, rfl, hi1, HN, HW⟩ := hrel
      by_cases hlt : i < nt
      · have HT2 : Hid (∀ w', Old W w' → w'.cell? ⟨w.heap.size, 0, none⟩ = some (.int .u64 P) ∧ w'.cell? ⟨w.heap.size, 1, none⟩ = some (.int .u64 Q) ∧ w'.cell? ⟨w.heap.size, 2, none⟩ = some (.int .u64 G) ∧ w'.cell? ⟨w.heap.size, 3, none⟩ = some (.int .u64 H) ∧ w'.cell? ⟨w.heap.size, 4, none⟩ = some (.slice a n cap)) := fun w' ho => by
          obtain ⟨d0, d1, d2, d3, d4, t0, t1⟩ := HT.out _ ho
          exact ⟨d0, d1, d2, d3, d4⟩
        obtain ⟨d0, d1, d2, d3, d4⟩ := HT2.out _ HW.out
        have cx := HRT.out i hlt _ (HW0.out.trans HW.out)
        have HM : Hid (∀ wx, Calls Try.prog 54 #[gv P Q G H a n cap, .int .u64 (T i), .int .u64 ch] wx fun r w' => r = .returned (.int .u64 (E i)) ∧ Old wx w') := fun wx => HEx.out i wx hlt
        have HV : Hid (∀ wx, Calls Try.prog 53 #[gv P Q G H a n cap, .int .u64 (F i), .int .u64 (E i)] wx fun r w' => r = .returned (.int .u64 (O i)) ∧ Old wx w') := fun wx => HOv.out (by trivial) i wx hlt
        have q00 := HN.out.at hlt
        go_upto_region 7 with fail
        refine wp_region_held_drew (S := (fun w' => w'.cell? ⟨w.heap.size, 0, none⟩ = some (.int .u64 P) ∧ w'.cell? ⟨w.heap.size, 1, none⟩ = some (.int .u64 Q) ∧ w'.cell? ⟨w.heap.size, 2, none⟩ = some (.int .u64 G) ∧ w'.cell? ⟨w.heap.size, 3, none⟩ = some (.int .u64 H) ∧ w'.cell? ⟨w.heap.size, 4, none⟩ = some (.slice a n cap))) (by kernel_rfl) (HT2.out _ HW.out.drew) (fun hHeld => ?_)
        refine wpAnyH_take (i := 0) (v := ?_) rfl (by kernel_rfl) (by kernel_rfl) (by kernel_rfl) (fun _ _ _ h => h) (Or.inl ⟨by rfl, ?_⟩) (by assumption) ?_
        rotate_left
        · intro wz hSw
          try dsimp only at hSw
          go_simp
          try rfl
        simp only [Act.put, List.getElem_toArray, List.getElem_cons_zero, List.getElem_cons_succ, List.setIfInBounds_toArray, List.set_cons_zero, List.set_cons_succ]
        refine wpAnyH_take (i := 1) (v := ?_) rfl (by kernel_rfl) (by kernel_rfl) (by kernel_rfl) (fun _ _ _ h => h) (Or.inl ⟨by rfl, ?_⟩) (by assumption) ?_
        rotate_left
        · intro wz hSw
          try dsimp only at hSw
          go_simp
          try rfl
        simp only [Act.put, List.getElem_toArray, List.getElem_cons_zero, List.getElem_cons_succ, List.setIfInBounds_toArray, List.set_cons_zero, List.set_cons_succ]
        refine wpAnyH_take (i := 2) (v := ?_) rfl (by kernel_rfl) (by kernel_rfl) (by kernel_rfl) (fun _ _ _ h => h) (Or.inl ⟨by rfl, ?_⟩) (by assumption) ?_
        rotate_left
        · intro wz hSw
          try dsimp only at hSw
          go_simp
          try rfl
        simp only [Act.put, List.getElem_toArray, List.getElem_cons_zero, List.getElem_cons_succ, List.setIfInBounds_toArray, List.set_cons_zero, List.set_cons_succ]
        refine wpAnyH_take (i := 3) (v := ?_) rfl (by kernel_rfl) (by kernel_rfl) (by kernel_rfl) (fun _ _ _ h => h) (Or.inl ⟨by rfl, ?_⟩) (by assumption) ?_
        rotate_left
        · intro wz hSw
          try dsimp only at hSw
          go_simp
          try rfl
        simp only [Act.put, List.getElem_toArray, List.getElem_cons_zero, List.getElem_cons_succ, List.setIfInBounds_toArray, List.set_cons_zero, List.set_cons_succ]
        refine wpAnyH_take (i := 4) (v := ?_) rfl (by kernel_rfl) (by kernel_rfl) (by kernel_rfl) (fun _ _ _ h => h) (Or.inl ⟨by rfl, ?_⟩) (by assumption) ?_
        rotate_left
        · intro wz hSw
          try dsimp only at hSw
          go_simp
          try rfl
        simp only [Act.put, List.getElem_toArray, List.getElem_cons_zero, List.getElem_cons_succ, List.setIfInBounds_toArray, List.set_cons_zero, List.set_cons_succ]
        refine wpAnyH_take (i := 5) (v := ?_) rfl (by kernel_rfl) (by kernel_rfl) (by kernel_rfl) (fun _ _ _ h => h) (Or.inl ⟨by rfl, ?_⟩) (by assumption) ?_
        rotate_left
        · intro wz hSw
          try dsimp only at hSw
          go_simp
          try rfl
        simp only [Act.put, List.getElem_toArray, List.getElem_cons_zero, List.getElem_cons_succ, List.setIfInBounds_toArray, List.set_cons_zero, List.set_cons_succ]
        refine wpAnyH_take (i := 7) (v := ?_) rfl (by kernel_rfl) (by kernel_rfl) (by kernel_rfl) (fun _ _ _ h => h) (Or.inl ⟨by rfl, ?_⟩) (by assumption) ?_
        rotate_left
        · intro wz hSw
          try dsimp only at hSw
          go_simp
          try rfl
        simp only [Act.put, List.getElem_toArray, List.getElem_cons_zero, List.getElem_cons_succ, List.setIfInBounds_toArray, List.set_cons_zero, List.set_cons_succ]
        refine wpAnyH_take (i := 8) (v := ?_) rfl (by kernel_rfl) (by kernel_rfl) (by kernel_rfl) (fun _ _ _ h => h) (Or.inl ⟨by rfl, ?_⟩) (by assumption) ?_
        rotate_left
        · intro wz hSw
          try dsimp only at hSw
          go_simp
          try rfl
        simp only [Act.put, List.getElem_toArray, List.getElem_cons_zero, List.getElem_cons_succ, List.setIfInBounds_toArray, List.set_cons_zero, List.set_cons_succ]
        refine wpAnyH_take (i := 9) (v := ?_) rfl (by kernel_rfl) (by kernel_rfl) (by kernel_rfl) (fun _ _ _ h => h) (Or.inl ⟨by rfl, ?_⟩) (by assumption) ?_
        rotate_left
        · intro wz hSw
          try dsimp only at hSw
          go_simp
          try rfl
        simp only [Act.put, List.getElem_toArray, List.getElem_cons_zero, List.getElem_cons_succ, List.setIfInBounds_toArray, List.set_cons_zero, List.set_cons_succ]
        refine wpAnyH_ready (rs := [6, 10]) (by kernel_rfl) (by simp) ?_
        refine AllReadyH.cons rfl (fun K hK => ?_) (AllReadyH.cons rfl (fun K hK => ?_) AllReadyH.nil)
        · rw [if_pos (by rfl)]
          go_simp
          refine hK.out _ _ (HT2.out _ HW.out.drew) (fun hHeld => ?_)
          clear hK K
          try simp only [Act.put, List.getElem_toArray, List.getElem_cons_zero, List.getElem_cons_succ, List.setIfInBounds_toArray, List.set_cons_zero, List.set_cons_succ]
          refine wpAnyH_ready (rs := [10]) (by kernel_rfl) (by simp) ?_
          refine AllReadyH.cons rfl (fun K hK => ?_) AllReadyH.nil
          rw [if_pos (by rfl)]
          go_simp
          refine (HM.out _).mono ?_
          rintro e w4 ⟨rfl, o4⟩
          have h4 : Old W w4 := HW.out.drew.trans o4; have hful4 := HN.out.old ((Old.refl wr).drew.trans o4); have q4 := hful4.at hlt
          refine hK.out _ _ (HT2.out _ h4) (fun hHeld => ?_)
          clear hK K
          try simp only [Act.put, List.getElem_toArray, List.getElem_cons_zero, List.getElem_cons_succ, List.setIfInBounds_toArray, List.set_cons_zero, List.set_cons_succ]
          refine wpAnyH_ready (rs := [11]) (by kernel_rfl) (by simp) ?_
          refine AllReadyH.cons rfl (fun K hK => ?_) AllReadyH.nil
          rw [if_pos (by rfl)]
          go_simp
          refine (HV.out _).mono ?_
          rintro e w5 ⟨rfl, o5⟩
          have h5 : Old W w5 := h4.trans o5; have hful := hful4.old o5; have q0 := hful.at hlt; have f0 := hful.free i
          refine hK.out _ _ (HT2.out _ h5) (fun hHeld => ?_)
          clear hK K
          try simp only [Act.put, List.getElem_toArray, List.getElem_cons_zero, List.getElem_cons_succ, List.setIfInBounds_toArray, List.set_cons_zero, List.set_cons_succ]
          refine wpAnyH_take (i := 12) (v := ?_) rfl (by kernel_rfl) (by kernel_rfl) (by kernel_rfl) (fun _ _ _ h => h) (Or.inl ⟨by rfl, ?_⟩) (by assumption) ?_
          rotate_left
          · intro wz hSw
            try dsimp only at hSw
            go_simp
            try rfl
          simp only [Act.put, List.getElem_toArray, List.getElem_cons_zero, List.getElem_cons_succ, List.setIfInBounds_toArray, List.set_cons_zero, List.set_cons_succ]
          refine wpAnyH_ready (rs := [13]) (by kernel_rfl) (by simp) ?_
          refine AllReadyH.cons rfl (fun K hK => ?_) AllReadyH.nil
          rw [if_pos (by rfl)]
          go_simp
          refine hK.out _ _ (HT2.out _ (h5.setCell hbf _)) (fun hHeld => ?_)
          clear hK K
          refine wpAnyH_done (by kernel_rfl) ?_ _
          have HG : Hid (Full (w5.setCell ⟨bf, i, none⟩ (.int .u64 (O i))) bf nt (fromTo (i + 1) F O)) := hful.step
          have HG2 : Hid (Old W (w5.setCell ⟨bf, i, none⟩ (.int .u64 (O i)))) := h5.setCell hbf _
          go_wp2_with fail
          go_roundw
          case rel => exact ⟨i + 1, idx_next i, by omega, HG, HG2⟩
          case measure => simp [intOf]; omega
        · rw [if_pos (by rfl)]
          go_simp
          refine (HM.out _).mono ?_
          rintro e w4 ⟨rfl, o4⟩
          have h4 : Old W w4 := HW.out.drew.trans o4; have hful4 := HN.out.old ((Old.refl wr).drew.trans o4); have q4 := hful4.at hlt
          refine hK.out _ _ (HT2.out _ h4) (fun hHeld => ?_)
          clear hK K
          try simp only [Act.put, List.getElem_toArray, List.getElem_cons_zero, List.getElem_cons_succ, List.setIfInBounds_toArray, List.set_cons_zero, List.set_cons_succ]
          refine wpAnyH_ready (rs := [6]) (by kernel_rfl) (by simp) ?_
          refine AllReadyH.cons rfl (fun K hK => ?_) AllReadyH.nil
          rw [if_pos (by rfl)]
          go_simp
          refine hK.out _ _ (HT2.out _ h4) (fun hHeld => ?_)
          clear hK K
          try simp only [Act.put, List.getElem_toArray, List.getElem_cons_zero, List.getElem_cons_succ, List.setIfInBounds_toArray, List.set_cons_zero, List.set_cons_succ]
          refine wpAnyH_ready (rs := [11]) (by kernel_rfl) (by simp) ?_
          refine AllReadyH.cons rfl (fun K hK => ?_) AllReadyH.nil
          rw [if_pos (by rfl)]
          go_simp
          refine (HV.out _).mono ?_
          rintro e w5 ⟨rfl, o5⟩
          have h5 : Old W w5 := h4.trans o5; have hful := hful4.old o5; have q0 := hful.at hlt; have f0 := hful.free i
          refine hK.out _ _ (HT2.out _ h5) (fun hHeld => ?_)
          clear hK K
          try simp only [Act.put, List.getElem_toArray, List.getElem_cons_zero, List.getElem_cons_succ, List.setIfInBounds_toArray, List.set_cons_zero, List.set_cons_succ]
          refine wpAnyH_take (i := 12) (v := ?_) rfl (by kernel_rfl) (by kernel_rfl) (by kernel_rfl) (fun _ _ _ h => h) (Or.inl ⟨by rfl, ?_⟩) (by assumption) ?_
          rotate_left
          · intro wz hSw
            try dsimp only at hSw
            go_simp
            try rfl
          simp only [Act.put, List.getElem_toArray, List.getElem_cons_zero, List.getElem_cons_succ, List.setIfInBounds_toArray, List.set_cons_zero, List.set_cons_succ]
          refine wpAnyH_ready (rs := [13]) (by kernel_rfl) (by simp) ?_
          refine AllReadyH.cons rfl (fun K hK => ?_) AllReadyH.nil
          rw [if_pos (by rfl)]
          go_simp
          refine hK.out _ _ (HT2.out _ (h5.setCell hbf _)) (fun hHeld => ?_)
          clear hK K
          refine wpAnyH_done (by kernel_rfl) ?_ _
          have HG : Hid (Full (w5.setCell ⟨bf, i, none⟩ (.int .u64 (O i))) bf nt (fromTo (i + 1) F O)) := hful.step
          have HG2 : Hid (Old W (w5.setCell ⟨bf, i, none⟩ (.int .u64 (O i)))) := h5.setCell hbf _
          go_wp2_with fail
          go_roundw
          case rel => exact ⟨i + 1, idx_next i, by omega, HG, HG2⟩
          case measure => simp [intOf]; omega
      · have hel : nt = i := by omega
        subst hel
        have HD : Hid (Full wr bf nt O) := HN.out.stop
        go_wp2_with fail
        go_ret2
        exact gives_yes rfl (HD.out.nums (Nat.le_trans HW0.out.size hbf) mt) (HW0.out.trans HW.out)

theorem lfake_any : Lfake := fun P Q G H a n cap bt nt ct T bb nb cb BA L C B ch bz nz cz X w h4 hr _ he _ _ hC hX =>
  lfake_gen P Q G H a n cap bt nt ct T bb nb cb BA L C B ch bz nz cz X w h4 hr he hC hX

end Go.Proofs.Ytokhpppealdfmaf
