/-
  The contracts of the document's functions of layer 6: whether a claim holds, what is faked, which talk is accepted.
-/
import Derived.Test.YtokhpppealdfmafK14
namespace Go.Proofs.Ytokhpppealdfmaf
open Go.RowKit

/-- Does a claim hold? -/
def holdsL (P Q : Int) (nt : Nat) (T : Nat → Int) (nb : Nat) (L : Nat → Nat) (B : Nat → Nat → Int) (nz : Nat) (X : Nat → Int) : Bool :=
  fitsB (sizeN P Q nt T nb L B) nz && sameB nt (fun j => imI P Q (B j) X (sizeN P Q nt T nb L B)) nt T

set_option linter.unusedSimpArgs false in
set_option maxRecDepth 100000 in
set_option maxHeartbeats 8000000 in
theorem rlholds_any (P Q G H : Int) (a : Option Addr) (n cap : Nat) (bt : Option Addr) (nt ct : Nat) (T : Nat → Int) (bb : Option Addr) (nb cb : Nat) (BA : Nat → Option Addr) (L C : Nat → Nat) (B : Nat → Nat → Int) (bz : Option Addr) (nz cz : Nat) (X : Nat → Int) (w : World) (h4 : Four P Q G H) (hC : ClaimIn w bt nt ct T bb nb cb BA L C B) (hX : FacsIn w bz nz X) :
    Calls Try.prog 25 #[gv P Q G H a n cap, cv bt nt ct bb nb cb, .slice bz nz cz] w fun e w' => e = .returned (.bool (holdsL P Q nt T nb L B nz X)) ∧ Old w w' := by
  have HZ := lain2 w (gc P Q G H a n cap) (cc bt nt ct bb nb cb) 25 34
  have HF : Hid (∀ w', Lain w [(gc P Q G H a n cap, 25), (cc bt nt ct bb nb cb, 34)] w' → w'.cell? ⟨w.heap.size, 0, none⟩ = some (.int .u64 P) ∧ w'.cell? ⟨w.heap.size, 1, none⟩ = some (.int .u64 Q) ∧ w'.cell? ⟨w.heap.size, 2, none⟩ = some (.int .u64 G) ∧ w'.cell? ⟨w.heap.size, 3, none⟩ = some (.int .u64 H) ∧ w'.cell? ⟨w.heap.size, 4, none⟩ = some (.slice a n cap) ∧ w'.cell? ⟨w.heap.size + 1, 0, none⟩ = some (.slice bt nt ct) ∧ w'.cell? ⟨w.heap.size + 1, 1, none⟩ = some (.slice bb nb cb)) := fun _ h => ⟨h.cell 0 0 (by simp) rfl, h.cell 0 1 (by simp) rfl, h.cell 0 2 (by simp) rfl, h.cell 0 3 (by simp) rfl, h.cell 0 4 (by simp) rfl, h.cell 1 0 (by simp) rfl, h.cell 1 1 (by simp) rfl⟩
  have HC : Hid (ClaimIn w bt nt ct T bb nb cb BA L C B) := hC
  have HIm : Hid (∀ wx, Old w wx → Calls Try.prog 46 #[gv P Q G H a n cap, cv bt nt ct bb nb cb, .slice bz nz cz] wx (Gives wx (fitsB (sizeN P Q nt T nb L B) nz) nt (fun j => imI P Q (B j) X (sizeN P Q nt T nb L B)))) := fun wx ho => rimage_any P Q G H a n cap bt nt ct T bb nb cb BA L C B bz nz cz X wx h4 (hC.old ho) (hX.old ho)
  have HNT : Hid (fitsB (sizeN P Q nt T nb L B) nz = true → 1 ≤ nt ∧ nt ≤ 64) := fun h => ⟨(sizeN_claim (fitsB_iff.1 h).1).t1, (sizeN_claim (fitsB_iff.1 h).1).t64⟩
  have HFU : Hid (∀ j, U64 (imI P Q (B j) X (sizeN P Q nt T nb L B))) := fun j => u64_prod _ _ _
  unfold holdsL
  clear h4 hC hX
  obtain ⟨F, hFi⟩ : ∃ F : Nat → Int, F = fun j => imI P Q (B j) X (sizeN P Q nt T nb L B) := ⟨_, rfl⟩
  rw [← hFi] at HIm ⊢
  have HFU : Hid (∀ j, U64 (F j)) := fun j => by rw [hFi]; exact u64_prod _ _ _
  clear hFi
  have HSm : Hid (∀ b c m wx, nt ≤ 64 → FacsIn wx b nt F → FacsIn wx bt nt T → m = nt → Calls Try.prog 18 #[.slice b nt c, .slice bt m ct] wx fun e w' => e = .returned (.bool (sameB nt F nt T)) ∧ Old wx w') := fun b c m wx hn h1 h2 hm => by subst hm; exact rsame_any b m c F bt m ct T wx (by omega) h1 h2
  generalize fitsB (sizeN P Q nt T nb L B) nz = ok at *
  generalize sameB nt F nt T = sm0 at *
  go_enter Try.func25, Try.ntmps25
  go_upto_region 1 with fail
  generalize hW : (w.alloc (.cells (gc P Q G H a n cap) 25)).alloc (.cells (cc bt nt ct bb nb cb) 34) = W at *
  clear hW
  have HW0 : Hid (Old w W) := HZ.old
  obtain ⟨d0, d1, d2, d3, d4, t0, t1⟩ := HF.out _ HZ
  go_upto_region 2 with (go_at_call 46; refine (HIm.out _ HW0.out).mono ?_; rintro e w2 ⟨v, rfl, hN, h2⟩)
  clear d0 d1 d2 d3 d4 t0 t1
  cases ok with
  | false =>
    go_wp2_with fail
    go_ret
    exact ⟨rfl, HW0.out.trans h2⟩
  | true =>
    have hnt := HNT.out (by trivial)
    simp only [if_true] at hN
    obtain ⟨bf, cf, rfl, hcf, hff⟩ := hN.facs (fun j _ => HFU.out j)
    have HS' : Hid (Calls Try.prog 18 #[.slice bf nt cf, .slice bt nt ct] w2 fun e w' => e = .returned (.bool sm0) ∧ Old w2 w') := HSm.out bf cf nt w2 hnt.2 hff (HC.out.tar.old (HW0.out.trans h2)) rfl
    clear hff hN
    obtain ⟨d0, d1, d2, d3, d4, t0, t1⟩ := HF.out _ (HZ.then h2)
    go_wp2_with (go_at_call 18; refine HS'.out.mono ?_; rintro e w3 ⟨rfl, h3⟩)
    go_ret
    exact ⟨rfl, (HW0.out.trans h2).trans h3⟩

/-- Is a talk accepted? -/
def accB (P Q : Int) (nt : Nat) (T : Nat → Int) (nb : Nat) (L : Nat → Nat) (B : Nat → Nat → Int) (nk : Nat) (K : Nat → Int) (ch : Int) (nz : Nat) (X : Nat → Int) : Bool :=
  fitsB (sizeN P Q nt T nb L B) nz && (decide (nk = nt) && (List.range nt).all fun j => inI P Q (K j) && (imI P Q (B j) X (sizeN P Q nt T nb L B) == mulI (K j) (expI P Q (T j) ch) P))
theorem accB_iff {P Q : Int} {nt : Nat} {T : Nat → Int} {nb : Nat} {L : Nat → Nat} {B : Nat → Nat → Int} {nk : Nat} {K : Nat → Int} {ch : Int} {nz : Nat} {X : Nat → Int} :
    accB P Q nt T nb L B nk K ch nz X = true ↔ fitsB (sizeN P Q nt T nb L B) nz = true ∧ nk = nt ∧ ∀ j, j < nt → inI P Q (K j) = true ∧ imI P Q (B j) X (sizeN P Q nt T nb L B) = mulI (K j) (expI P Q (T j) ch) P := by
  simp [accB]

set_option linter.unusedSimpArgs false in
set_option maxRecDepth 100000 in
set_option maxHeartbeats 8000000 in
theorem raccepts_any (P Q G H : Int) (a : Option Addr) (n cap : Nat) (bt : Option Addr) (nt ct : Nat) (T : Nat → Int) (bb : Option Addr) (nb cb : Nat) (BA : Nat → Option Addr) (L C : Nat → Nat) (B : Nat → Nat → Int) (bk : Option Addr) (nk ck : Nat) (K : Nat → Int) (ch : Int) (bz : Option Addr) (nz cz : Nat) (X : Nat → Int) (w : World) (h4 : Four P Q G H) (he : U64 ch) (hC : ClaimIn w bt nt ct T bb nb cb BA L C B) (hK : FacsIn w bk nk K) (hX : FacsIn w bz nz X) :
    Calls Try.prog 60 #[gv P Q G H a n cap, cv bt nt ct bb nb cb, .slice bk nk ck, .int .u64 ch, .slice bz nz cz] w fun e w' => e = .returned (.bool (accB P Q nt T nb L B nk K ch nz X)) ∧ Old w w' := by
  have HZ := lain2 w (gc P Q G H a n cap) (cc bt nt ct bb nb cb) 25 34
  have HF : Hid (∀ w', Lain w [(gc P Q G H a n cap, 25), (cc bt nt ct bb nb cb, 34)] w' → w'.cell? ⟨w.heap.size, 0, none⟩ = some (.int .u64 P) ∧ w'.cell? ⟨w.heap.size, 1, none⟩ = some (.int .u64 Q) ∧ w'.cell? ⟨w.heap.size, 2, none⟩ = some (.int .u64 G) ∧ w'.cell? ⟨w.heap.size, 3, none⟩ = some (.int .u64 H) ∧ w'.cell? ⟨w.heap.size, 4, none⟩ = some (.slice a n cap) ∧ w'.cell? ⟨w.heap.size + 1, 0, none⟩ = some (.slice bt nt ct) ∧ w'.cell? ⟨w.heap.size + 1, 1, none⟩ = some (.slice bb nb cb)) := fun _ h => ⟨h.cell 0 0 (by simp) rfl, h.cell 0 1 (by simp) rfl, h.cell 0 2 (by simp) rfl, h.cell 0 3 (by simp) rfl, h.cell 0 4 (by simp) rfl, h.cell 1 0 (by simp) rfl, h.cell 1 1 (by simp) rfl⟩
  have HC : Hid (ClaimIn w bt nt ct T bb nb cb BA L C B) := hC
  have HIm : Hid (∀ wx, Old w wx → Calls Try.prog 46 #[gv P Q G H a n cap, cv bt nt ct bb nb cb, .slice bz nz cz] wx (Gives wx (fitsB (sizeN P Q nt T nb L B) nz) nt (fun j => imI P Q (B j) X (sizeN P Q nt T nb L B)))) := fun wx ho => rimage_any P Q G H a n cap bt nt ct T bb nb cb BA L C B bz nz cz X wx h4 (hC.old ho) (hX.old ho)
  have HNT : Hid (fitsB (sizeN P Q nt T nb L B) nz = true → 1 ≤ nt ∧ nt ≤ 64) := fun h => ⟨(sizeN_claim (fitsB_iff.1 h).1).t1, (sizeN_claim (fitsB_iff.1 h).1).t64⟩
  have HFU : Hid (∀ j, U64 (imI P Q (B j) X (sizeN P Q nt T nb L B))) := fun j => u64_prod _ _ _
  have HKK : Hid (FacsIn w bk nk K) := hK
  obtain ⟨E, hE⟩ : ∃ E : Nat → Int, E = fun j => expI P Q (T j) ch := ⟨_, rfl⟩
  obtain ⟨F, hFi⟩ : ∃ F : Nat → Int, F = fun j => imI P Q (B j) X (sizeN P Q nt T nb L B) := ⟨_, rfl⟩
  obtain ⟨M, hM⟩ : ∃ M : Nat → Int, M = fun j => mulI (K j) (E j) P := ⟨_, rfl⟩
  have HYES : Hid (fitsB (sizeN P Q nt T nb L B) nz = true → nk = nt → (∀ j, j < nt → inI P Q (K j) = true ∧ F j = M j) → accB P Q nt T nb L B nk K ch nz X = true) := fun h1 h2 h3 => accB_iff.2 ⟨h1, h2, fun j hj => by have := h3 j hj; rw [hFi, hM, hE] at this; exact this⟩
  have HNO : Hid ((fitsB (sizeN P Q nt T nb L B) nz = true → nk = nt → (∀ j, j < nt → inI P Q (K j) = true ∧ F j = M j) → False) → accB P Q nt T nb L B nk K ch nz X = false) := fun h => no_of fun hc => by
    obtain ⟨h1, h2, h3⟩ := accB_iff.1 hc
    exact h h1 h2 fun j hj => by rw [hFi, hM, hE]; exact h3 j hj
  have HIn : Hid (∀ j wx, j < nk → Calls Try.prog 28 #[gv P Q G H a n cap, .int .u64 (K j)] wx fun e w' => e = .returned (.bool (inI P Q (K j))) ∧ Old wx w') := fun j wx hj => rin_any P Q G H (K j) a n cap wx h4.q0 h4.q1 (hK.u64 j hj).2
  have HEx : Hid (∀ j wx, j < nt → Calls Try.prog 64 #[gv P Q G H a n cap, .int .u64 (T j), .int .u64 ch] wx fun e w' => e = .returned (.int .u64 (E j)) ∧ Old wx w') := fun j wx hj => (rexp_any P Q G H (T j) ch a n cap wx h4.q1 (hC.tar.u64 j hj).1 (hC.tar.u64 j hj).2 he.1 he.2).mono fun e w' ⟨h, o⟩ => ⟨by rw [h, hE], o⟩
  have HMu : Hid (∀ j wx, j < nk → Calls Try.prog 71 #[.int .u64 (K j), .int .u64 (E j), .int .u64 P] wx fun e w' => e = .returned (.int .u64 (M j)) ∧ Old wx w') := fun j wx hj => (rmul_any (K j) (E j) P wx (hK.u64 j hj).1 (hK.u64 j hj).2 (by rw [hE]; exact (u64_exp _ _ _ _).1) (by rw [hE]; exact (u64_exp _ _ _ _).2)).mono fun e w' ⟨h, o⟩ => ⟨by rw [h, hM], (Old.refl _).draws o⟩
  rw [← hFi] at HIm
  have HFU : Hid (∀ j, U64 (F j)) := fun j => by rw [hFi]; exact u64_prod _ _ _
  clear hFi hM hE h4 he hC hK hX
  generalize accB P Q nt T nb L B nk K ch nz X = R at *
  generalize fitsB (sizeN P Q nt T nb L B) nz = ok at *
  go_enter Try.func60, Try.ntmps60
  go_upto_region 1 with fail
  generalize hW : (w.alloc (.cells (gc P Q G H a n cap) 25)).alloc (.cells (cc bt nt ct bb nb cb) 34) = W at *
  clear hW
  have HW0 : Hid (Old w W) := HZ.old
  obtain ⟨d0, d1, d2, d3, d4, t0, t1⟩ := HF.out _ HZ
  go_upto_region 2 with (go_at_call 46; refine (HIm.out _ HW0.out).mono ?_; rintro e w2 ⟨v, rfl, hN, h2⟩)
  clear d0 d1 d2 d3 d4 t0 t1
  cases ok with
  | false =>
    have HN : Hid (R = false) := HNO.out fun h _ _ => by cases h
    go_wp2_with fail
    go_ret
    exact ⟨ret_bool HN.out.symm, HW0.out.trans h2⟩
  | true =>
    have hnt := HNT.out (by trivial)
    simp only [if_true] at hN
    obtain ⟨bf, cf, rfl, hcf, hff⟩ := hN.facs (fun j _ => HFU.out j)
    rcases hff with h0 | ⟨fb, fo, hqf, _, hrf⟩
    · omega
    subst hqf
    rcases HC.out.tar with h0 | ⟨tb, tof, hqt, _, hrt⟩
    · omega
    subst hqt
    have HRF : Hid (∀ j, j < nt → ∀ w', Old w2 w' → w'.cell? ⟨fb, fo + j, none⟩ = some (.int .u64 (F j))) := fun j hj w' ho => ho.cellOf (hrf j hj).1
    have HRT : Hid (∀ j, j < nt → ∀ w', Old w w' → w'.cell? ⟨tb, tof + j, none⟩ = some (.int .u64 (T j))) := fun j hj w' ho => ho.cellOf (hrt j hj).1
    have HW2 : Hid (Old W w2) := h2
    clear hrf hrt hN h2
    obtain ⟨d0, d1, d2, d3, d4, t0, t1⟩ := HF.out _ (HZ.then HW2.out)
    by_cases hnk : nk = nt
    · subst hnk
      rcases HKK.out with h0 | ⟨kb, ko, hqk, _, hrk⟩
      · omega
      subst hqk
      have HRK : Hid (∀ j, j < nk → ∀ w', Old w w' → w'.cell? ⟨kb, ko + j, none⟩ = some (.int .u64 (K j))) := fun j hj w' ho => ho.cellOf (hrk j hj).1
      clear hrk
      go_wp2_with fail
      clear d0 d1 d2 d3 d4 t0 t1
      go_loopw [13] (fun jv wx => ∃ j : Nat, jv = .int .i64 (j : Int) ∧ j ≤ nk ∧ Hid (Old w2 wx) ∧ Hid (∀ i, i < j → inI P Q (K i) = true ∧ F i = M i)) (fun jv _ => nk - (intOf jv).toNat)
      case atStart => exact ⟨0, rfl, Nat.zero_le _, Old.refl _, fun j hj => by omega⟩
      case round =>
        obtain ⟨j, rfl, hj, HW, HJ⟩ := hrel
        by_cases hlt : j < nk
        · have HT : Hid (∀ w', Old w2 w' → w'.cell? ⟨w.heap.size, 0, none⟩ = some (.int .u64 P) ∧ w'.cell? ⟨w.heap.size, 1, none⟩ = some (.int .u64 Q) ∧ w'.cell? ⟨w.heap.size, 2, none⟩ = some (.int .u64 G) ∧ w'.cell? ⟨w.heap.size, 3, none⟩ = some (.int .u64 H) ∧ w'.cell? ⟨w.heap.size, 4, none⟩ = some (.slice a n cap) ∧ w'.cell? ⟨w.heap.size + 1, 0, none⟩ = some (.slice (some ⟨tb, tof, none⟩) nk ct) ∧ w'.cell? ⟨w.heap.size + 1, 1, none⟩ = some (.slice bb nb cb) ∧ w'.cell? ⟨fb, fo + j, none⟩ = some (.int .u64 (F j)) ∧ w'.cell? ⟨tb, tof + j, none⟩ = some (.int .u64 (T j)) ∧ w'.cell? ⟨kb, ko + j, none⟩ = some (.int .u64 (K j))) := fun w' ho => by
            obtain ⟨d0, d1, d2, d3, d4, t0, t1⟩ := HF.out _ (HZ.then (HW2.out.trans ho))
            exact ⟨d0, d1, d2, d3, d4, t0, t1, HRF.out j hlt _ ho, HRT.out j hlt _ ((HW0.out.trans HW2.out).trans ho), HRK.out j hlt _ ((HW0.out.trans HW2.out).trans ho)⟩
          obtain ⟨d0, d1, d2, d3, d4, t0, t1, cf1, ct1, ck1⟩ := HT.out _ HW.out
          have HI1 : Hid (∀ wx, Calls Try.prog 28 #[gv P Q G H a n cap, .int .u64 (K j)] wx fun e w' => e = .returned (.bool (inI P Q (K j))) ∧ Old wx w') := fun wx => HIn.out j wx hlt
          have HE1 : Hid (∀ wx, Calls Try.prog 64 #[gv P Q G H a n cap, .int .u64 (T j), .int .u64 ch] wx fun e w' => e = .returned (.int .u64 (E j)) ∧ Old wx w') := fun wx => HEx.out j wx hlt
          have HM1 : Hid (∀ wx, Calls Try.prog 71 #[.int .u64 (K j), .int .u64 (E j), .int .u64 P] wx fun e w' => e = .returned (.int .u64 (M j)) ∧ Old wx w') := fun wx => HMu.out j wx hlt
          have k9 : (j : Int) < (nk : Int) := by omega
          cases hin : inI P Q (K j)
          · have HN : Hid (R = false) := HNO.out fun _ _ h => by have := (h j hlt).1; rw [hin] at this; cases this
            rw [hin] at HI1
            clear hin
            go_upto_region 7 with fail
            refine wp_region_held_drew (S := (fun w' => w'.cell? ⟨w.heap.size, 0, none⟩ = some (.int .u64 P) ∧ w'.cell? ⟨w.heap.size, 1, none⟩ = some (.int .u64 Q) ∧ w'.cell? ⟨w.heap.size, 2, none⟩ = some (.int .u64 G) ∧ w'.cell? ⟨w.heap.size, 3, none⟩ = some (.int .u64 H) ∧ w'.cell? ⟨w.heap.size, 4, none⟩ = some (.slice a n cap) ∧ w'.cell? ⟨w.heap.size + 1, 0, none⟩ = some (.slice (some ⟨tb, tof, none⟩) nk ct) ∧ w'.cell? ⟨w.heap.size + 1, 1, none⟩ = some (.slice bb nb cb) ∧ w'.cell? ⟨fb, fo + j, none⟩ = some (.int .u64 (F j)) ∧ w'.cell? ⟨tb, tof + j, none⟩ = some (.int .u64 (T j)) ∧ w'.cell? ⟨kb, ko + j, none⟩ = some (.int .u64 (K j)))) (by kernel_rfl) (HT.out _ HW.out.drew) (fun hHeld => ?_)
            refine wpAnyH_take (i := 0) (v := ?_) rfl (by kernel_rfl) (by kernel_rfl) (by kernel_rfl) (fun _ _ _ h => h) (Or.inl ⟨by rfl, ?_⟩) (by assumption) ?_
            rotate_left
            · intro wz hSw
              try dsimp only at hSw
              go_simp
              try rfl
            simp only [Act.put, List.getElem_toArray, List.getElem_cons_zero, List.getElem_cons_succ, List.setIfInBounds_toArray, List.set_cons_zero, List.set_cons_succ]
            refine wpAnyH_take (i := 1) (v := ?_) rfl (by kernel_rfl) (by kernel_rfl) (by kernel_rfl) (fun _ _ _ h => h) (Or.inl ⟨by rfl, ?_⟩) (by assumption) ?_
            rotate_left
            · intro wz hSw
              try dsimp only at hSw
              go_simp
              try rfl
            simp only [Act.put, List.getElem_toArray, List.getElem_cons_zero, List.getElem_cons_succ, List.setIfInBounds_toArray, List.set_cons_zero, List.set_cons_succ]
            refine wpAnyH_take (i := 2) (v := ?_) rfl (by kernel_rfl) (by kernel_rfl) (by kernel_rfl) (fun _ _ _ h => h) (Or.inl ⟨by rfl, ?_⟩) (by assumption) ?_
            rotate_left
            · intro wz hSw
              try dsimp only at hSw
              go_simp
              try rfl
            simp only [Act.put, List.getElem_toArray, List.getElem_cons_zero, List.getElem_cons_succ, List.setIfInBounds_toArray, List.set_cons_zero, List.set_cons_succ]
            refine wpAnyH_take (i := 3) (v := ?_) rfl (by kernel_rfl) (by kernel_rfl) (by kernel_rfl) (fun _ _ _ h => h) (Or.inl ⟨by rfl, ?_⟩) (by assumption) ?_
            rotate_left
            · intro wz hSw
              try dsimp only at hSw
              go_simp
              try rfl
            simp only [Act.put, List.getElem_toArray, List.getElem_cons_zero, List.getElem_cons_succ, List.setIfInBounds_toArray, List.set_cons_zero, List.set_cons_succ]
            refine wpAnyH_take (i := 4) (v := ?_) rfl (by kernel_rfl) (by kernel_rfl) (by kernel_rfl) (fun _ _ _ h => h) (Or.inl ⟨by rfl, ?_⟩) (by assumption) ?_
            rotate_left
            · intro wz hSw
              try dsimp only at hSw
              go_simp
              try rfl
            simp only [Act.put, List.getElem_toArray, List.getElem_cons_zero, List.getElem_cons_succ, List.setIfInBounds_toArray, List.set_cons_zero, List.set_cons_succ]
            refine wpAnyH_ready (rs := [5]) (by kernel_rfl) (by simp) ?_
            refine AllReadyH.cons rfl (fun K hK => ?_) AllReadyH.nil
            rw [if_pos (by rfl)]
            go_simp
            refine (HI1.out _).mono ?_
            rintro e w4 ⟨rfl, o4⟩
            have h4 : Old w2 w4 := HW.out.drew.trans o4
            refine hK.out _ _ (HT.out _ h4) (fun hHeld => ?_)
            clear hK K
            refine wpAnyH_take (i := 6) (v := ?_) rfl (by kernel_rfl) (by kernel_rfl) (by kernel_rfl) (fun _ _ _ h => h) (Or.inl ⟨by rfl, ?_⟩) (by assumption) ?_
            rotate_left
            · intro wz hSw
              try dsimp only at hSw
              go_simp
              try rfl
            simp only [Act.put, List.getElem_toArray, List.getElem_cons_zero, List.getElem_cons_succ, List.setIfInBounds_toArray, List.set_cons_zero, List.set_cons_succ]
            refine wpAnyH_take (i := 7) (v := ?_) rfl (by kernel_rfl) (by kernel_rfl) (by kernel_rfl) (fun _ _ _ h => h) (Or.inl ⟨by rfl, ?_⟩) (by assumption) ?_
            rotate_left
            · intro wz hSw
              try dsimp only at hSw
              go_simp
              try rfl
            simp only [Act.put, List.getElem_toArray, List.getElem_cons_zero, List.getElem_cons_succ, List.setIfInBounds_toArray, List.set_cons_zero, List.set_cons_succ]
            refine wpAnyH_take (i := 8) rfl (by kernel_rfl) (by kernel_rfl) (by kernel_rfl) (fun _ _ _ h => h) (Or.inr ⟨by rfl, rfl⟩) (by assumption) ?_
            simp only [Act.put, List.getElem_toArray, List.getElem_cons_zero, List.getElem_cons_succ, List.setIfInBounds_toArray, List.set_cons_zero, List.set_cons_succ]
            refine wpAnyH_take (i := 9) rfl (by kernel_rfl) (by kernel_rfl) (by kernel_rfl) (fun _ _ _ h => h) (Or.inr ⟨by rfl, rfl⟩) (by assumption) ?_
            simp only [Act.put, List.getElem_toArray, List.getElem_cons_zero, List.getElem_cons_succ, List.setIfInBounds_toArray, List.set_cons_zero, List.set_cons_succ]
            refine wpAnyH_take (i := 10) rfl (by kernel_rfl) (by kernel_rfl) (by kernel_rfl) (fun _ _ _ h => h) (Or.inr ⟨by rfl, rfl⟩) (by assumption) ?_
            simp only [Act.put, List.getElem_toArray, List.getElem_cons_zero, List.getElem_cons_succ, List.setIfInBounds_toArray, List.set_cons_zero, List.set_cons_succ]
            refine wpAnyH_take (i := 11) rfl (by kernel_rfl) (by kernel_rfl) (by kernel_rfl) (fun _ _ _ h => h) (Or.inr ⟨by rfl, rfl⟩) (by assumption) ?_
            simp only [Act.put, List.getElem_toArray, List.getElem_cons_zero, List.getElem_cons_succ, List.setIfInBounds_toArray, List.set_cons_zero, List.set_cons_succ]
            refine wpAnyH_take (i := 12) rfl (by kernel_rfl) (by kernel_rfl) (by kernel_rfl) (fun _ _ _ h => h) (Or.inr ⟨by rfl, rfl⟩) (by assumption) ?_
            simp only [Act.put, List.getElem_toArray, List.getElem_cons_zero, List.getElem_cons_succ, List.setIfInBounds_toArray, List.set_cons_zero, List.set_cons_succ]
            refine wpAnyH_take (i := 13) rfl (by kernel_rfl) (by kernel_rfl) (by kernel_rfl) (fun _ _ _ h => h) (Or.inr ⟨by rfl, rfl⟩) (by assumption) ?_
            simp only [Act.put, List.getElem_toArray, List.getElem_cons_zero, List.getElem_cons_succ, List.setIfInBounds_toArray, List.set_cons_zero, List.set_cons_succ]
            refine wpAnyH_take (i := 14) rfl (by kernel_rfl) (by kernel_rfl) (by kernel_rfl) (fun _ _ _ h => h) (Or.inr ⟨by rfl, rfl⟩) (by assumption) ?_
            simp only [Act.put, List.getElem_toArray, List.getElem_cons_zero, List.getElem_cons_succ, List.setIfInBounds_toArray, List.set_cons_zero, List.set_cons_succ]
            refine wpAnyH_take (i := 15) rfl (by kernel_rfl) (by kernel_rfl) (by kernel_rfl) (fun _ _ _ h => h) (Or.inr ⟨by rfl, rfl⟩) (by assumption) ?_
            simp only [Act.put, List.getElem_toArray, List.getElem_cons_zero, List.getElem_cons_succ, List.setIfInBounds_toArray, List.set_cons_zero, List.set_cons_succ]
            refine wpAnyH_take (i := 16) rfl (by kernel_rfl) (by kernel_rfl) (by kernel_rfl) (fun _ _ _ h => h) (Or.inr ⟨by rfl, rfl⟩) (by assumption) ?_
            simp only [Act.put, List.getElem_toArray, List.getElem_cons_zero, List.getElem_cons_succ, List.setIfInBounds_toArray, List.set_cons_zero, List.set_cons_succ]
            refine wpAnyH_take (i := 17) rfl (by kernel_rfl) (by kernel_rfl) (by kernel_rfl) (fun _ _ _ h => h) (Or.inr ⟨by rfl, rfl⟩) (by assumption) ?_
            simp only [Act.put, List.getElem_toArray, List.getElem_cons_zero, List.getElem_cons_succ, List.setIfInBounds_toArray, List.set_cons_zero, List.set_cons_succ]
            refine wpAnyH_take (i := 18) rfl (by kernel_rfl) (by kernel_rfl) (by kernel_rfl) (fun _ _ _ h => h) (Or.inr ⟨by rfl, rfl⟩) (by assumption) ?_
            simp only [Act.put, List.getElem_toArray, List.getElem_cons_zero, List.getElem_cons_succ, List.setIfInBounds_toArray, List.set_cons_zero, List.set_cons_succ]
            refine wpAnyH_take (i := 19) rfl (by kernel_rfl) (by kernel_rfl) (by kernel_rfl) (fun _ _ _ h => h) (Or.inr ⟨by rfl, rfl⟩) (by assumption) ?_
            simp only [Act.put, List.getElem_toArray, List.getElem_cons_zero, List.getElem_cons_succ, List.setIfInBounds_toArray, List.set_cons_zero, List.set_cons_succ]
            refine wpAnyH_take (i := 20) rfl (by kernel_rfl) (by kernel_rfl) (by kernel_rfl) (fun _ _ _ h => h) (Or.inr ⟨by rfl, rfl⟩) (by assumption) ?_
            simp only [Act.put, List.getElem_toArray, List.getElem_cons_zero, List.getElem_cons_succ, List.setIfInBounds_toArray, List.set_cons_zero, List.set_cons_succ]
            refine wpAnyH_take (i := 21) rfl (by kernel_rfl) (by kernel_rfl) (by kernel_rfl) (fun _ _ _ h => h) (Or.inr ⟨by rfl, rfl⟩) (by assumption) ?_
            simp only [Act.put, List.getElem_toArray, List.getElem_cons_zero, List.getElem_cons_succ, List.setIfInBounds_toArray, List.set_cons_zero, List.set_cons_succ]
            refine wpAnyH_take (i := 22) rfl (by kernel_rfl) (by kernel_rfl) (by kernel_rfl) (fun _ _ _ h => h) (Or.inr ⟨by rfl, rfl⟩) (by assumption) ?_
            simp only [Act.put, List.getElem_toArray, List.getElem_cons_zero, List.getElem_cons_succ, List.setIfInBounds_toArray, List.set_cons_zero, List.set_cons_succ]
            refine wpAnyH_take (i := 23) rfl (by kernel_rfl) (by kernel_rfl) (by kernel_rfl) (fun _ _ _ h => h) (Or.inr ⟨by rfl, rfl⟩) (by assumption) ?_
            simp only [Act.put, List.getElem_toArray, List.getElem_cons_zero, List.getElem_cons_succ, List.setIfInBounds_toArray, List.set_cons_zero, List.set_cons_succ]
            refine wpAnyH_take (i := 24) rfl (by kernel_rfl) (by kernel_rfl) (by kernel_rfl) (fun _ _ _ h => h) (Or.inr ⟨by rfl, rfl⟩) (by assumption) ?_
            simp only [Act.put, List.getElem_toArray, List.getElem_cons_zero, List.getElem_cons_succ, List.setIfInBounds_toArray, List.set_cons_zero, List.set_cons_succ]
            refine wpAnyH_take (i := 25) rfl (by kernel_rfl) (by kernel_rfl) (by kernel_rfl) (fun _ _ _ h => h) (Or.inr ⟨by rfl, rfl⟩) (by assumption) ?_
            simp only [Act.put, List.getElem_toArray, List.getElem_cons_zero, List.getElem_cons_succ, List.setIfInBounds_toArray, List.set_cons_zero, List.set_cons_succ]
            refine wpAnyH_take (i := 26) rfl (by kernel_rfl) (by kernel_rfl) (by kernel_rfl) (fun _ _ _ h => h) (Or.inr ⟨by rfl, rfl⟩) (by assumption) ?_
            simp only [Act.put, List.getElem_toArray, List.getElem_cons_zero, List.getElem_cons_succ, List.setIfInBounds_toArray, List.set_cons_zero, List.set_cons_succ]
            refine wpAnyH_take (i := 27) rfl (by kernel_rfl) (by kernel_rfl) (by kernel_rfl) (fun _ _ _ h => h) (Or.inr ⟨by rfl, rfl⟩) (by assumption) ?_
            simp only [Act.put, List.getElem_toArray, List.getElem_cons_zero, List.getElem_cons_succ, List.setIfInBounds_toArray, List.set_cons_zero, List.set_cons_succ]
            refine wpAnyH_take (i := 28) (v := ?_) rfl (by kernel_rfl) (by kernel_rfl) (by kernel_rfl) (fun _ _ _ h => h) (Or.inl ⟨by rfl, ?_⟩) (by assumption) ?_
            rotate_left
            · intro wz hSw
              try dsimp only at hSw
              go_simp
              try rfl
            simp only [Act.put, List.getElem_toArray, List.getElem_cons_zero, List.getElem_cons_succ, List.setIfInBounds_toArray, List.set_cons_zero, List.set_cons_succ]
            refine wpAnyH_done (by kernel_rfl) ?_ _
            go_wp2_with fail
            go_ret
            exact ⟨ret_bool HN.out.symm, (HW0.out.trans HW2.out).trans h4⟩
          have HIN : Hid (inI P Q (K j) = true) := hin
          rw [hin] at HI1
          clear hin
          by_cases hfm : F j = M j
          · have HFM : Hid (F j = M j) := hfm
            rw [← hfm] at HM1
            clear hfm
            go_upto_region 7 with fail
            go_region_held3 (fun w' => w'.cell? ⟨w.heap.size, 0, none⟩ = some (.int .u64 P) ∧ w'.cell? ⟨w.heap.size, 1, none⟩ = some (.int .u64 Q) ∧ w'.cell? ⟨w.heap.size, 2, none⟩ = some (.int .u64 G) ∧ w'.cell? ⟨w.heap.size, 3, none⟩ = some (.int .u64 H) ∧ w'.cell? ⟨w.heap.size, 4, none⟩ = some (.slice a n cap) ∧ w'.cell? ⟨w.heap.size + 1, 0, none⟩ = some (.slice (some ⟨tb, tof, none⟩) nk ct) ∧ w'.cell? ⟨w.heap.size + 1, 1, none⟩ = some (.slice bb nb cb) ∧ w'.cell? ⟨fb, fo + j, none⟩ = some (.int .u64 (F j)) ∧ w'.cell? ⟨tb, tof + j, none⟩ = some (.int .u64 (T j)) ∧ w'.cell? ⟨kb, ko + j, none⟩ = some (.int .u64 (K j))) (first | exact HT.out _ h6 | exact HT.out _ h5 | exact HT.out _ h4 | exact HT.out _ HW.out.drew) (first
              | (go_at_call 28; refine (HI1.out _).mono ?_; rintro e w4 ⟨rfl, o4⟩; have h4 : Old w2 w4 := HW.out.drew.trans o4)
              | (go_at_call 64; refine (HE1.out _).mono ?_; rintro e w5 ⟨rfl, o5⟩; have h5 : Old w2 w5 := h4.trans o5)
              | (go_at_call 71; refine (HM1.out _).mono ?_; rintro e w6 ⟨rfl, o6⟩; have h6 : Old w2 w6 := h5.trans o6))
            have HW6 : Hid (Old w2 w6) := h6
            clear h4 h5 h6 o4 o5 o6
            go_wp2_with fail
            go_roundw
            case rel => exact ⟨j + 1, idx_next j, by omega, HW6, upto_succ HJ.out ⟨HIN.out, HFM.out⟩⟩
            case measure => simp [intOf]; omega
          · have HN : Hid (R = false) := HNO.out fun _ _ h => hfm (h j hlt).2
            go_upto_region 7 with fail
            go_region_held3 (fun w' => w'.cell? ⟨w.heap.size, 0, none⟩ = some (.int .u64 P) ∧ w'.cell? ⟨w.heap.size, 1, none⟩ = some (.int .u64 Q) ∧ w'.cell? ⟨w.heap.size, 2, none⟩ = some (.int .u64 G) ∧ w'.cell? ⟨w.heap.size, 3, none⟩ = some (.int .u64 H) ∧ w'.cell? ⟨w.heap.size, 4, none⟩ = some (.slice a n cap) ∧ w'.cell? ⟨w.heap.size + 1, 0, none⟩ = some (.slice (some ⟨tb, tof, none⟩) nk ct) ∧ w'.cell? ⟨w.heap.size + 1, 1, none⟩ = some (.slice bb nb cb) ∧ w'.cell? ⟨fb, fo + j, none⟩ = some (.int .u64 (F j)) ∧ w'.cell? ⟨tb, tof + j, none⟩ = some (.int .u64 (T j)) ∧ w'.cell? ⟨kb, ko + j, none⟩ = some (.int .u64 (K j))) (first | exact HT.out _ h6 | exact HT.out _ h5 | exact HT.out _ h4 | exact HT.out _ HW.out.drew) (first
              | (go_at_call 28; refine (HI1.out _).mono ?_; rintro e w4 ⟨rfl, o4⟩; have h4 : Old w2 w4 := HW.out.drew.trans o4)
              | (go_at_call 64; refine (HE1.out _).mono ?_; rintro e w5 ⟨rfl, o5⟩; have h5 : Old w2 w5 := h4.trans o5)
              | (go_at_call 71; refine (HM1.out _).mono ?_; rintro e w6 ⟨rfl, o6⟩; have h6 : Old w2 w6 := h5.trans o6))
            go_wp2_with fail
            go_ret
            exact ⟨ret_bool HN.out.symm, (HW0.out.trans HW2.out).trans h6⟩
        · have he : nk = j := by omega
          subst he
          have HN : Hid (R = true) := HYES.out (by trivial) (by trivial) HJ.out
          go_wp2_with fail
          go_ret
          exact ⟨ret_bool HN.out.symm, (HW0.out.trans HW2.out).trans HW.out⟩
    · have HN : Hid (R = false) := HNO.out fun _ h _ => hnk h
      have k2 : ¬ (nk : Int) = (nt : Int) := by omega
      have k4 : ((nk : Int) != (nt : Int)) = true := by simp; omega
      have k5 : ((nk : Int) == (nt : Int)) = false := by simp; omega
      go_wp2_with fail
      go_ret
      exact ⟨ret_bool HN.out.symm, HW0.out.trans HW2.out⟩
end Go.Proofs.Ytokhpppealdfmaf
