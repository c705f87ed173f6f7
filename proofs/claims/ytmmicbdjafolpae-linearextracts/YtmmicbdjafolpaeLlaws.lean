/-
  The statement's walk (layer 6): LinearImages, by what is asked of linear.
  The statement's walk (layer 6): LinearAnswers, by what is asked of linear.
  The statement's walk (layer 6): LinearTalks, by what is asked of linear.
  The statement's walk (layer 6): LinearWhole, by what is asked of linear.
  The statement's walk (layer 6): LinearExtracts, by what is asked of linear.
-/
import Derived.Test.YtmmicbdjafolpaeLlin
namespace Go.Proofs.Ytmmicbdjafolpae
open Go.RowKit

theorem same_self (k : Nat) (F : Nat → Int) : sameB k F k F = true := sameB_iff.2 ⟨rfl, fun _ _ => rfl⟩

set_option linter.unusedSimpArgs false in
set_option maxRecDepth 100000 in
set_option maxHeartbeats 8000000 in
theorem law_images (hLs : Lsize) (hLh : Lholds) (hLi : Limage) (P Q G H : Int) (a : Option Addr) (n cap : Nat) (N A : Nat → Int) (FA : Nat → Option Addr) (RL RC : Nat → Nat) (RF : Nat → Nat → Int) (bt : Option Addr) (nt ct : Nat) (T : Nat → Int) (bb : Option Addr) (nb cb : Nat) (BA : Nat → Option Addr) (L C : Nat → Nat) (B : Nat → Nat → Int) (bz : Option Addr) (nz cz : Nat) (X : Nat → Int) (w : World) (h4 : Four P Q G H) (_hcap : n ≤ cap) (hin : RowsIn w a n N A FA RL RC RF) (hC : ClaimIn w bt nt ct T bb nb cb BA L C B) (hcz : nz ≤ cz) (hX : FacsIn w bz nz X) :
    Calls Try.prog 4 #[gv P Q G H a n cap, cv bt nt ct bb nb cb, .slice bz nz cz] w fun e w' => e = .returned (.bool true) ∧ Old w w' := by
  have HZ := lain2 w (gc P Q G H a n cap) (cc bt nt ct bb nb cb) 25 40
  have HF : Hid (∀ w', Lain w [(gc P Q G H a n cap, 25), (cc bt nt ct bb nb cb, 40)] w' → w'.cell? ⟨w.heap.size, 0, none⟩ = some (.int .u64 P) ∧ w'.cell? ⟨w.heap.size, 1, none⟩ = some (.int .u64 Q) ∧ w'.cell? ⟨w.heap.size, 2, none⟩ = some (.int .u64 G) ∧ w'.cell? ⟨w.heap.size, 3, none⟩ = some (.int .u64 H) ∧ w'.cell? ⟨w.heap.size, 4, none⟩ = some (.slice a n cap) ∧ w'.cell? ⟨w.heap.size + 1, 0, none⟩ = some (.slice bt nt ct) ∧ w'.cell? ⟨w.heap.size + 1, 1, none⟩ = some (.slice bb nb cb)) := fun _ h => ⟨h.cell 0 0 (by simp) rfl, h.cell 0 1 (by simp) rfl, h.cell 0 2 (by simp) rfl, h.cell 0 3 (by simp) rfl, h.cell 0 4 (by simp) rfl, h.cell 1 0 (by simp) rfl, h.cell 1 1 (by simp) rfl⟩
  have HA : Hid (∀ wx, Calls Try.prog 16 #[] wx fun e w' => e = .returned (.bool true) ∧ Old wx w') := fun wx => awake6_any hLs hLh wx
  have HU : Hid (∀ wx, Old w wx → Calls Try.prog 10 #[gv P Q G H a n cap] wx fun e w' => e = .returned (.bool (fewB RL n && rightI P Q G H N A RF RL n)) ∧ Old wx w') := fun wx ho => group5_any P Q G H a n cap N A FA RL RC RF wx h4 (hin.old ho)
  have HL : Hid (∀ wx t, Old w wx → Calls Try.prog 17 #[cv bt nt ct bb nb cb, .slice (some ⟨wx.heap.size, 0, none⟩) 1 1] (wx.alloc (.cells #[.slice bz nz cz] t)) fun e w' => e = .returned (.bool (fewC nt nb L 1 (fun _ => nz))) ∧ Old wx w') := fun wx t ho =>
    (few6_any bt nt ct bb nb cb BA L C _ 1 1 _ (fun _ => nz) _ _ (by omega) ((hC.bas.lens.old ho).old ((Old.refl _).alloc _)) (lens_one wx bz nz cz t)).mono fun e w' ⟨h, k⟩ => ⟨h, ((Old.refl _).alloc _).trans k⟩
  have ha := hin.a0
  clear hin
  go_enter Try.func4, Try.ntmps4
  go_upto_region 1 with fail
  generalize hW : (w.alloc (.cells (gc P Q G H a n cap) 25)).alloc (.cells (cc bt nt ct bb nb cb) 40) = W at *
  clear hW
  have HW0 : Hid (Old w W) := HZ.old
  have HT : Hid (∀ w', Old W w' → w'.cell? ⟨w.heap.size, 0, none⟩ = some (.int .u64 P) ∧ w'.cell? ⟨w.heap.size, 1, none⟩ = some (.int .u64 Q) ∧ w'.cell? ⟨w.heap.size, 2, none⟩ = some (.int .u64 G) ∧ w'.cell? ⟨w.heap.size, 3, none⟩ = some (.int .u64 H) ∧ w'.cell? ⟨w.heap.size, 4, none⟩ = some (.slice a n cap) ∧ w'.cell? ⟨w.heap.size + 1, 0, none⟩ = some (.slice bt nt ct) ∧ w'.cell? ⟨w.heap.size + 1, 1, none⟩ = some (.slice bb nb cb)) := fun w' ho => HF.out _ (HZ.then ho)
  go_upto_region 3 with (go_at_call 16; refine (HA.out _).mono ?_; rintro e w1 ⟨rfl, h1⟩; obtain ⟨d0, d1, d2, d3, d4, t0, t1⟩ := HT.out _ h1)
  cases hg : (fewB RL n && rightI P Q G H N A RF RL n)
  · rw [hg] at HU
    clear hg ha h4 hC hX hLs hLh hLi
    go_wp2_with (go_at_call 10; refine (HU.out _ (HW0.out.trans h1)).mono ?_; rintro e w2 ⟨rfl, o2⟩)
    go_ret
    exact ⟨rfl, (HW0.out.trans h1).trans o2⟩
  have hg' := Bool.and_eq_true_iff.1 hg
  have hR := right_righ ha hg'.2
  rw [hg] at HU
  clear hg hg' ha
  cases hfw : fewC nt nb L 1 (fun _ => nz)
  · rw [hfw] at HL
    clear hfw h4 hC hX hLs hLh hLi hR
    go_wp2_with (first
      | (go_at_call 10; refine (HU.out _ (HW0.out.trans h1)).mono ?_; rintro e w2 ⟨rfl, o2⟩; have h2 : Old W w2 := h1.trans o2; obtain ⟨d0, d1, d2, d3, d4, t0, t1⟩ := HT.out _ h2)
      | (go_at_call 17; refine (HL.out _ _ (HW0.out.trans h2)).mono ?_; rintro e w3 ⟨rfl, o3⟩; have h3 : Old W w3 := h2.trans o3))
    go_ret
    exact ⟨rfl, HW0.out.trans h3⟩
  rw [hfw] at HL
  have hfI := fewC_iff.1 hfw
  have hfew : FewI nt nb L := ⟨hfI.1, hfI.2.1, hfI.2.2.1⟩
  have hnz : nz ≤ 80 := hfI.2.2.2 0 (by omega)
  clear hfw hfI
  have H1 : Hid (∀ wx, Old w wx → Calls Try.prog 18 #[gv P Q G H a n cap, cv bt nt ct bb nb cb, .slice bz nz cz] wx (Gives wx (fitsB (sizeN P Q nt T nb L B) nz) nt (fun j => imI P Q (B j) X (sizeN P Q nt T nb L B)))) := fun wx ho => hLi P Q G H a n cap bt nt ct T bb nb cb BA L C B bz nz cz X wx h4 hR hfew hnz hcz (hC.old ho) (hX.old ho)
  have H2 : Hid (∀ wx, Old w wx → Calls Try.prog 19 #[gv P Q G H a n cap, cv bt nt ct bb nb cb, .slice bz nz cz] wx (Gives wx (fitsB (sizeN P Q nt T nb L B) nz) nt (fun j => imI P Q (B j) X (sizeN P Q nt T nb L B)))) := fun wx ho => rimage_any P Q G H a n cap bt nt ct T bb nb cb BA L C B bz nz cz X wx h4 (hC.old ho) (hX.old ho)
  have H3 : Hid (∀ wx, Old w wx → Calls Try.prog 20 #[gv P Q G H a n cap, cv bt nt ct bb nb cb] wx fun e w' => e = .returned (.int .i64 (sizeN P Q nt T nb L B : Nat)) ∧ Old wx w') := fun wx ho => hLs P Q G H a n cap bt nt ct T bb nb cb BA L C B wx h4 hR hfew (hC.old ho)
  have H4 : Hid (∀ wx, Old w wx → Calls Try.prog 21 #[gv P Q G H a n cap, cv bt nt ct bb nb cb] wx fun e w' => e = .returned (.int .i64 (sizeN P Q nt T nb L B : Nat)) ∧ Old wx w') := fun wx ho => rsize_any P Q G H a n cap bt nt ct T bb nb cb BA L C B wx h4 (hC.old ho)
  have H5 : Hid (∀ wx, Old w wx → Calls Try.prog 23 #[gv P Q G H a n cap, cv bt nt ct bb nb cb, .slice bz nz cz] wx fun e w' => e = .returned (.bool (holdsL P Q nt T nb L B nz X)) ∧ Old wx w') := fun wx ho => hLh P Q G H a n cap bt nt ct T bb nb cb BA L C B bz nz cz X wx h4 hR hfew hnz hcz (hC.old ho) (hX.old ho)
  have H6 : Hid (∀ wx, Old w wx → Calls Try.prog 24 #[gv P Q G H a n cap, cv bt nt ct bb nb cb, .slice bz nz cz] wx fun e w' => e = .returned (.bool (holdsL P Q nt T nb L B nz X)) ∧ Old wx w') := fun wx ho => rlholds_any P Q G H a n cap bt nt ct T bb nb cb BA L C B bz nz cz X wx h4 (hC.old ho) (hX.old ho)
  have HFU : Hid (∀ j, U64 ((fun j => imI P Q (B j) X (sizeN P Q nt T nb L B)) j)) := fun j => u64_prod _ _ _
  have hk64 : fitsB (sizeN P Q nt T nb L B) nz = true → nt ≤ 64 := fun h => (sizeN_claim (fitsB_iff.1 h).1).t64
  have hk : (if fitsB (sizeN P Q nt T nb L B) nz = true then nt else 0) ≤ 64 := by
    split
    · rename_i h; exact hk64 h
    · omega
  clear hk64 h4 hC hX hLs hLh hLi hR hfew
  generalize holdsL P Q nt T nb L B nz X = hol at *
  generalize (fun j => imI P Q (B j) X (sizeN P Q nt T nb L B)) = F at *
  generalize fitsB (sizeN P Q nt T nb L B) nz = ok at *
  generalize sizeN P Q nt T nb L B = sz at *
  go_upto_region 5 with (first
    | (go_at_call 10; refine (HU.out _ (HW0.out.trans h1)).mono ?_; rintro e w2 ⟨rfl, o2⟩; have h2 : Old W w2 := h1.trans o2; obtain ⟨d0, d1, d2, d3, d4, t0, t1⟩ := HT.out _ h2)
    | (go_at_call 17; refine (HL.out _ _ (HW0.out.trans h2)).mono ?_; rintro e w3 ⟨rfl, o3⟩; have h3 : Old W w3 := h2.trans o3; obtain ⟨d0, d1, d2, d3, d4, t0, t1⟩ := HT.out _ h3))
  go_upto_region 6 with (go_at_call 18; refine (H1.out _ (HW0.out.trans h3)).mono ?_; rintro e w4 ⟨x4, rfl, hN4, o4⟩)
  have h4 : Old W w4 := h3.trans o4
  obtain ⟨b4, c4, rfl, _, _, hf4⟩ := hN4.facs2 (fun j _ => HFU.out j)
  clear d0 d1 d2 d3 d4 t0 t1
  obtain ⟨d0, d1, d2, d3, d4, t0, t1⟩ := HT.out _ h4
  go_upto_region 7 with (go_at_call 19; refine (H2.out _ (HW0.out.trans h4)).mono ?_; rintro e w5 ⟨x5, rfl, hN5, o5⟩)
  have h5 : Old W w5 := h4.trans o5
  obtain ⟨b5, c5, rfl, _, _, hf5⟩ := hN5.facs2 (fun j _ => HFU.out j)
  clear d0 d1 d2 d3 d4 t0 t1
  have HS : Hid (∀ wx, Old w5 wx → Calls Try.prog 22 #[.slice b4 (if ok = true then nt else 0) c4, .slice b5 (if ok = true then nt else 0) c5] wx fun e w' => e = .returned (.bool true) ∧ Old wx w') := fun wx ho =>
    (rsame_any b4 _ c4 F b5 _ c5 F wx (by omega) (hf4.old (o5.trans ho)) (hf5.old ho)).mono fun e w' ⟨h, k⟩ => ⟨by rw [h, same_self], k⟩
  have HT5 : Hid (∀ w', Old w5 w' → w'.cell? ⟨w.heap.size, 0, none⟩ = some (.int .u64 P) ∧ w'.cell? ⟨w.heap.size, 1, none⟩ = some (.int .u64 Q) ∧ w'.cell? ⟨w.heap.size, 2, none⟩ = some (.int .u64 G) ∧ w'.cell? ⟨w.heap.size, 3, none⟩ = some (.int .u64 H) ∧ w'.cell? ⟨w.heap.size, 4, none⟩ = some (.slice a n cap) ∧ w'.cell? ⟨w.heap.size + 1, 0, none⟩ = some (.slice bt nt ct) ∧ w'.cell? ⟨w.heap.size + 1, 1, none⟩ = some (.slice bb nb cb)) := fun w' ho => HT.out _ (h5.trans ho)
  have HOw : Hid (∀ w', Old w5 w' → Old w w') := fun w' ho => (HW0.out.trans h5).trans ho
  generalize (if ok = true then nt else 0) = kk at *
  clear hN4 hN5 hf4 hf5 o4 o5 h1 h2 h3 h4 h5 o2 o3 HA HU HL H1 H2 HT HF HZ hk HFU
  obtain ⟨d0, d1, d2, d3, d4, t0, t1⟩ := HT5.out _ (Old.refl _)
  go_region_held3 (fun w' => w'.cell? ⟨w.heap.size, 0, none⟩ = some (.int .u64 P) ∧ w'.cell? ⟨w.heap.size, 1, none⟩ = some (.int .u64 Q) ∧ w'.cell? ⟨w.heap.size, 2, none⟩ = some (.int .u64 G) ∧ w'.cell? ⟨w.heap.size, 3, none⟩ = some (.int .u64 H) ∧ w'.cell? ⟨w.heap.size, 4, none⟩ = some (.slice a n cap) ∧ w'.cell? ⟨w.heap.size + 1, 0, none⟩ = some (.slice bt nt ct) ∧ w'.cell? ⟨w.heap.size + 1, 1, none⟩ = some (.slice bb nb cb)) (first | exact HT5.out _ hA | exact HT5.out _ h9 | exact HT5.out _ h8 | exact HT5.out _ h7 | exact HT5.out _ h6 | exact HT5.out _ (Old.refl _).drew) (first
    | (go_at_call 20; refine (H3.out _ (HOw.out _ (Old.refl _).drew)).mono ?_; rintro e w6 ⟨rfl, o6⟩; have h6 : Old w5 w6 := (Old.refl _).drew.trans o6)
    | (go_at_call 21; refine (H4.out _ (HOw.out _ h6)).mono ?_; rintro e w7 ⟨rfl, o7⟩; have h7 : Old w5 w7 := h6.trans o7)
    | (go_at_call 22; refine (HS.out _ h7).mono ?_; rintro e w8 ⟨rfl, o8⟩; have h8 : Old w5 w8 := h7.trans o8)
    | (go_at_call 23; refine (H5.out _ (HOw.out _ h8)).mono ?_; rintro e w9 ⟨rfl, o9⟩; have h9 : Old w5 w9 := h8.trans o9)
    | (go_at_call 24; refine (H6.out _ (HOw.out _ h9)).mono ?_; rintro e wA ⟨rfl, oA⟩; have hA : Old w5 wA := h9.trans oA))
  go_wp2_with fail
  go_ret
  exact ⟨by simp, HOw.out _ hA⟩

end Go.Proofs.Ytmmicbdjafolpae

namespace Go.Proofs.Ytmmicbdjafolpae
open Go.RowKit

set_option linter.unusedSimpArgs false in
set_option maxRecDepth 100000 in
set_option maxHeartbeats 8000000 in
theorem law_answers (hLs : Lsize) (hLh : Lholds) (hLa : Lanswer) (hLd : Ldraws) (hLe : Lextract) (P Q G H ch f : Int) (a : Option Addr) (n cap : Nat) (N A : Nat → Int) (FA : Nat → Option Addr) (RL RC : Nat → Nat) (RF : Nat → Nat → Int) (b1 : Option Addr) (n1 c1 : Nat) (X : Nat → Int) (b2 : Option Addr) (n2 c2 : Nat) (Y : Nat → Int) (w : World) (h4 : Four P Q G H) (_hcap : n ≤ cap) (hin : RowsIn w a n N A FA RL RC RF) (hch : U64 ch) (hc1 : n1 ≤ c1) (hX : FacsIn w b1 n1 X) (hc2 : n2 ≤ c2) (hY : FacsIn w b2 n2 Y) (hf : U64 f) :
    Calls Try.prog 6 #[gv P Q G H a n cap, .agg #[.int .u64 ch, .slice b1 n1 c1, .slice b2 n2 c2], .int .u64 f] w fun e w' => e = .returned (.bool true) ∧ Old w w' := by
  have HZ := lain2 w (gc P Q G H a n cap) #[.int .u64 ch, .slice b1 n1 c1, .slice b2 n2 c2] 25 48
  have HF : Hid (∀ w', Lain w [(gc P Q G H a n cap, 25), (#[.int .u64 ch, .slice b1 n1 c1, .slice b2 n2 c2], 48)] w' → w'.cell? ⟨w.heap.size, 0, none⟩ = some (.int .u64 P) ∧ w'.cell? ⟨w.heap.size, 1, none⟩ = some (.int .u64 Q) ∧ w'.cell? ⟨w.heap.size, 2, none⟩ = some (.int .u64 G) ∧ w'.cell? ⟨w.heap.size, 3, none⟩ = some (.int .u64 H) ∧ w'.cell? ⟨w.heap.size, 4, none⟩ = some (.slice a n cap) ∧ w'.cell? ⟨w.heap.size + 1, 0, none⟩ = some (.int .u64 ch) ∧ w'.cell? ⟨w.heap.size + 1, 1, none⟩ = some (.slice b1 n1 c1) ∧ w'.cell? ⟨w.heap.size + 1, 2, none⟩ = some (.slice b2 n2 c2)) := fun _ h => ⟨h.cell 0 0 (by simp) rfl, h.cell 0 1 (by simp) rfl, h.cell 0 2 (by simp) rfl, h.cell 0 3 (by simp) rfl, h.cell 0 4 (by simp) rfl, h.cell 1 0 (by simp) rfl, h.cell 1 1 (by simp) rfl, h.cell 1 2 (by simp) rfl⟩
  have HA : Hid (∀ wx, Calls Try.prog 16 #[] wx fun e w' => e = .returned (.bool true) ∧ Old wx w') := fun wx => awake6_any hLs hLh wx
  have HU : Hid (∀ wx, Old w wx → Calls Try.prog 10 #[gv P Q G H a n cap] wx fun e w' => e = .returned (.bool (fewB RL n && rightI P Q G H N A RF RL n)) ∧ Old wx w') := fun wx ho => group5_any P Q G H a n cap N A FA RL RC RF wx h4 (hin.old ho)
  have ha := hin.a0
  clear hin
  go_enter Try.func6, Try.ntmps6
  go_upto_region 1 with fail
  generalize hW : (w.alloc (.cells (gc P Q G H a n cap) 25)).alloc (.cells #[.int .u64 ch, .slice b1 n1 c1, .slice b2 n2 c2] 48) = W at *
  clear hW
  have HW0 : Hid (Old w W) := HZ.old
  have HT : Hid (∀ w', Old W w' → w'.cell? ⟨w.heap.size, 0, none⟩ = some (.int .u64 P) ∧ w'.cell? ⟨w.heap.size, 1, none⟩ = some (.int .u64 Q) ∧ w'.cell? ⟨w.heap.size, 2, none⟩ = some (.int .u64 G) ∧ w'.cell? ⟨w.heap.size, 3, none⟩ = some (.int .u64 H) ∧ w'.cell? ⟨w.heap.size, 4, none⟩ = some (.slice a n cap) ∧ w'.cell? ⟨w.heap.size + 1, 0, none⟩ = some (.int .u64 ch) ∧ w'.cell? ⟨w.heap.size + 1, 1, none⟩ = some (.slice b1 n1 c1) ∧ w'.cell? ⟨w.heap.size + 1, 2, none⟩ = some (.slice b2 n2 c2)) := fun w' ho => HF.out _ (HZ.then ho)
  go_upto_region 3 with (go_at_call 16; refine (HA.out _).mono ?_; rintro e w1 ⟨rfl, h1⟩; obtain ⟨d0, d1, d2, d3, d4, t0, t1, t2⟩ := HT.out _ h1)
  cases hg : (fewB RL n && rightI P Q G H N A RF RL n)
  · rw [hg] at HU
    clear hg ha h4 hX hY hLs hLh hLa hLd hLe
    go_wp2_with (go_at_call 10; refine (HU.out _ (HW0.out.trans h1)).mono ?_; rintro e w2 ⟨rfl, o2⟩; have h2 : Old W w2 := h1.trans o2; obtain ⟨d0, d1, d2, d3, d4, t0, t1, t2⟩ := HT.out _ h2)
    go_ret
    exact ⟨rfl, HW0.out.trans h2⟩
  have hg' := Bool.and_eq_true_iff.1 hg
  have hR := right_righ ha hg'.2
  rw [hg] at HU
  clear hg hg' ha
  by_cases g1 : 80 < n1
  · have k1 : (80 : Int) < (n1 : Int) := by omega
    clear h4 hX hY hLs hLh hLa hLd hLe hR
    go_wp2_with (go_at_call 10; refine (HU.out _ (HW0.out.trans h1)).mono ?_; rintro e w2 ⟨rfl, o2⟩; have h2 : Old W w2 := h1.trans o2; obtain ⟨d0, d1, d2, d3, d4, t0, t1, t2⟩ := HT.out _ h2)
    go_ret
    exact ⟨rfl, HW0.out.trans h2⟩
  by_cases g2 : 80 < n2
  · have k1 : ¬ (80 : Int) < (n1 : Int) := by omega
    have k2 : (80 : Int) < (n2 : Int) := by omega
    clear h4 hX hY hLs hLh hLa hLd hLe hR
    go_wp2_with (go_at_call 10; refine (HU.out _ (HW0.out.trans h1)).mono ?_; rintro e w2 ⟨rfl, o2⟩; have h2 : Old W w2 := h1.trans o2; obtain ⟨d0, d1, d2, d3, d4, t0, t1, t2⟩ := HT.out _ h2)
    go_ret
    exact ⟨rfl, HW0.out.trans h2⟩
  have k1 : ¬ (80 : Int) < (n1 : Int) := by omega
  have k2 : ¬ (80 : Int) < (n2 : Int) := by omega
  have m1 : n1 ≤ 80 := by omega
  have m2 : n2 ≤ 80 := by omega
  have H1 : Hid (∀ wx, Old w wx → Calls Try.prog 29 #[gv P Q G H a n cap, .slice b1 n1 c1, .slice b2 n2 c2, .int .u64 ch] wx (Gives wx (decide (n1 = n2)) n1 (fun k => ansI Q ch (X k) (Y k)))) := fun wx ho => hLa P Q G H a n cap b1 n1 c1 X b2 n2 c2 Y ch wx h4 hR hch m1 m2 hc1 hc2 (hX.old ho) (hY.old ho)
  have H2 : Hid (∀ wx, Old w wx → Calls Try.prog 30 #[gv P Q G H a n cap, .slice b1 n1 c1, .slice b2 n2 c2, .int .u64 ch] wx (Gives wx (decide (n1 = n2)) n1 (fun k => ansI Q ch (X k) (Y k)))) := fun wx ho => ranswer_any P Q G H a n cap b1 n1 c1 X b2 n2 c2 Y ch wx hch m1 (hX.old ho) (hY.old ho)
  have H3 : Hid (∀ wx, Old w wx → Calls Try.prog 31 #[gv P Q G H a n cap, .slice b1 n1 c1, .slice b2 n2 c2, .int .u64 ch] wx (Gives wx (decide (n1 = n2)) n1 (fun k => drwI Q ch (X k) (Y k)))) := fun wx ho => hLd P Q G H a n cap b1 n1 c1 X b2 n2 c2 Y ch wx h4 hR hch m1 m2 hc1 hc2 (hX.old ho) (hY.old ho)
  have H4 : Hid (∀ wx, Old w wx → Calls Try.prog 32 #[gv P Q G H a n cap, .slice b1 n1 c1, .slice b2 n2 c2, .int .u64 ch] wx (Gives wx (decide (n1 = n2)) n1 (fun k => drwI Q ch (X k) (Y k)))) := fun wx ho => rdraws_any P Q G H a n cap b1 n1 c1 X b2 n2 c2 Y ch wx hch m1 (hX.old ho) (hY.old ho)
  have H5 : Hid (∀ wx, Old w wx → Calls Try.prog 33 #[gv P Q G H a n cap, .int .u64 ch, .slice b1 n1 c1, .int .u64 f, .slice b2 n2 c2] wx (Gives wx (invB (subI ch f Q) Q && decide (n1 = n2)) n1 (fun k => exI Q (invI (subI ch f Q) Q) (X k) (Y k)))) := fun wx ho => hLe P Q G H a n cap b1 n1 c1 X b2 n2 c2 Y ch f wx h4 hR hch hf m1 m2 hc1 hc2 (hX.old ho) (hY.old ho)
  have H6 : Hid (∀ wx, Old w wx → Calls Try.prog 34 #[gv P Q G H a n cap, .int .u64 ch, .slice b1 n1 c1, .int .u64 f, .slice b2 n2 c2] wx (Gives wx (invB (subI ch f Q) Q && decide (n1 = n2)) n1 (fun k => exI Q (invI (subI ch f Q) Q) (X k) (Y k)))) := fun wx ho => rextract_any P Q G H a n cap ch b1 n1 c1 X f b2 n2 c2 Y wx hch hf m1 (hX.old ho) (hY.old ho)
  have F1 : Hid (∀ j, U64 ((fun k => ansI Q ch (X k) (Y k)) j)) := fun j => by have := addI_bd (Y j) (mulI ch (X j) Q) Q; show U64 (addI _ _ _); unfold U64; omega
  have F2 : Hid (∀ j, U64 ((fun k => drwI Q ch (X k) (Y k)) j)) := fun j => by have := subI_bd (Y j) (mulI ch (X j) Q) Q; show U64 (subI _ _ _); unfold U64; omega
  have F3 : Hid (∀ j, U64 ((fun k => exI Q (invI (subI ch f Q) Q) (X k) (Y k)) j)) := fun j => u64_mul _ _ _
  have q1 : (if decide (n1 = n2) = true then n1 else 0) ≤ 80 := by split <;> omega
  have q2 : (if (invB (subI ch f Q) Q && decide (n1 = n2)) = true then n1 else 0) ≤ 80 := by split <;> omega
  clear h4 hX hY hLs hLh hLa hLd hLe hR
  generalize (fun k => ansI Q ch (X k) (Y k)) = A1 at *
  generalize (fun k => drwI Q ch (X k) (Y k)) = A2 at *
  generalize (fun k => exI Q (invI (subI ch f Q) Q) (X k) (Y k)) = A3 at *
  generalize (invB (subI ch f Q) Q && decide (n1 = n2)) = ok2 at *
  generalize decide (n1 = n2) = ok1 at *
  go_upto_region 5 with (go_at_call 10; refine (HU.out _ (HW0.out.trans h1)).mono ?_; rintro e w2 ⟨rfl, o2⟩; have h2 : Old W w2 := h1.trans o2; obtain ⟨d0, d1, d2, d3, d4, t0, t1, t2⟩ := HT.out _ h2)
  go_upto_region 6 with (go_at_call 29; refine (H1.out _ (HW0.out.trans h2)).mono ?_; rintro e w3 ⟨x3, rfl, hN3, o3⟩)
  have h3 : Old W w3 := h2.trans o3
  obtain ⟨b3', c3', rfl, _, _, hf3⟩ := hN3.facs2 (fun j _ => F1.out j)
  clear d0 d1 d2 d3 d4 t0 t1 t2
  obtain ⟨d0, d1, d2, d3, d4, t0, t1, t2⟩ := HT.out _ h3
  go_upto_region 7 with (go_at_call 30; refine (H2.out _ (HW0.out.trans h3)).mono ?_; rintro e w4 ⟨x4, rfl, hN4, o4⟩)
  have h4 : Old W w4 := h3.trans o4
  obtain ⟨b4', c4', rfl, _, _, hf4⟩ := hN4.facs2 (fun j _ => F1.out j)
  clear d0 d1 d2 d3 d4 t0 t1 t2
  obtain ⟨d0, d1, d2, d3, d4, t0, t1, t2⟩ := HT.out _ h4
  go_upto_region 8 with (go_at_call 31; refine (H3.out _ (HW0.out.trans h4)).mono ?_; rintro e w5 ⟨x5, rfl, hN5, o5⟩)
  have h5 : Old W w5 := h4.trans o5
  obtain ⟨b5', c5', rfl, _, _, hf5⟩ := hN5.facs2 (fun j _ => F2.out j)
  clear d0 d1 d2 d3 d4 t0 t1 t2
  obtain ⟨d0, d1, d2, d3, d4, t0, t1, t2⟩ := HT.out _ h5
  go_upto_region 9 with (go_at_call 32; refine (H4.out _ (HW0.out.trans h5)).mono ?_; rintro e w6 ⟨x6, rfl, hN6, o6⟩)
  have h6 : Old W w6 := h5.trans o6
  obtain ⟨b6', c6', rfl, _, _, hf6⟩ := hN6.facs2 (fun j _ => F2.out j)
  clear d0 d1 d2 d3 d4 t0 t1 t2
  obtain ⟨d0, d1, d2, d3, d4, t0, t1, t2⟩ := HT.out _ h6
  go_upto_region 10 with (go_at_call 33; refine (H5.out _ (HW0.out.trans h6)).mono ?_; rintro e w7 ⟨x7, rfl, hN7, o7⟩)
  have h7 : Old W w7 := h6.trans o7
  obtain ⟨b7', c7', rfl, _, _, hf7⟩ := hN7.facs2 (fun j _ => F3.out j)
  clear d0 d1 d2 d3 d4 t0 t1 t2
  obtain ⟨d0, d1, d2, d3, d4, t0, t1, t2⟩ := HT.out _ h7
  go_upto_region 11 with (go_at_call 34; refine (H6.out _ (HW0.out.trans h7)).mono ?_; rintro e w8 ⟨x8, rfl, hN8, o8⟩)
  have h8 : Old W w8 := h7.trans o8
  obtain ⟨b8', c8', rfl, _, _, hf8⟩ := hN8.facs2 (fun j _ => F3.out j)
  clear d0 d1 d2 d3 d4 t0 t1 t2
  obtain ⟨d0, d1, d2, d3, d4, t0, t1, t2⟩ := HT.out _ h8
  have HS1 : Hid (∀ wx, Old w8 wx → Calls Try.prog 22 #[.slice b3' (if ok1 = true then n1 else 0) c3', .slice b4' (if ok1 = true then n1 else 0) c4'] wx fun e w' => e = .returned (.bool true) ∧ Old wx w') := fun wx ho =>
    (rsame_any b3' _ c3' A1 b4' _ c4' A1 wx (by omega) (hf3.old ((((o4.trans o5).trans o6).trans (o7.trans o8)).trans ho)) (hf4.old (((o5.trans o6).trans (o7.trans o8)).trans ho))).mono fun e w' ⟨h, k⟩ => ⟨by rw [h, same_self], k⟩
  have HS2 : Hid (∀ wx, Old w8 wx → Calls Try.prog 22 #[.slice b5' (if ok1 = true then n1 else 0) c5', .slice b6' (if ok1 = true then n1 else 0) c6'] wx fun e w' => e = .returned (.bool true) ∧ Old wx w') := fun wx ho =>
    (rsame_any b5' _ c5' A2 b6' _ c6' A2 wx (by omega) (hf5.old ((o6.trans (o7.trans o8)).trans ho)) (hf6.old ((o7.trans o8).trans ho))).mono fun e w' ⟨h, k⟩ => ⟨by rw [h, same_self], k⟩
  have HS3 : Hid (∀ wx, Old w8 wx → Calls Try.prog 22 #[.slice b7' (if ok2 = true then n1 else 0) c7', .slice b8' (if ok2 = true then n1 else 0) c8'] wx fun e w' => e = .returned (.bool true) ∧ Old wx w') := fun wx ho =>
    (rsame_any b7' _ c7' A3 b8' _ c8' A3 wx (by omega) (hf7.old (o8.trans ho)) (hf8.old ho)).mono fun e w' ⟨h, k⟩ => ⟨by rw [h, same_self], k⟩
  have HOw : Hid (∀ w', Old w8 w' → Old w w') := fun w' ho => (HW0.out.trans h8).trans ho
  generalize (if ok1 = true then n1 else 0) = kk1 at *
  generalize (if ok2 = true then n1 else 0) = kk2 at *
  clear hf3 hf4 hf5 hf6 hf7 hf8 hN3 hN4 hN5 hN6 hN7 hN8 HA HU HT HF HZ F1 F2 F3 q1 q2 H1 H2 H3 H4 H5 H6
  clear o2 o3 o4 o5 o6 o7 o8 h1 h2 h3 h4 h5 h6 h7 h8
  go_wp2_with (first
    | (go_at_call 22; have hgB := hB; refine (HS3.out _ hgB).mono ?_; rintro e wC ⟨rfl, oC⟩; have hC : Old w8 wC := hgB.trans oC)
    | (go_at_call 22; have hgA := hA; refine (HS2.out _ hgA).mono ?_; rintro e wB ⟨rfl, oB⟩; have hB : Old w8 wB := hgA.trans oB)
    | (go_at_call 22; refine (HS1.out _ (Old.refl _)).mono ?_; rintro e wA ⟨rfl, oA⟩; have hA : Old w8 wA := oA))
  go_ret
  exact ⟨by simp, HOw.out _ hC⟩

end Go.Proofs.Ytmmicbdjafolpae

namespace Go.Proofs.Ytmmicbdjafolpae
open Go.RowKit

def two6 (m k : Nat) : Nat → Nat | 0 => m | _ => k
def two6a (b c : Option Addr) : Nat → Option Addr | 0 => b | _ => c
theorem lens_two (w : World) (b : Option Addr) (n c : Nat) (b' : Option Addr) (n' c' : Nat) (t : TypeId) : LensIn (w.alloc (.cells #[.slice b n c, .slice b' n' c'] t)) (some ⟨w.heap.size, 0, none⟩) 2 (two6a b b') (two6 n n') (two6 c c') := by
  refine Or.inr ⟨_, _, rfl, by simp, fun j hj => ?_⟩
  match j, hj with
  | 0, _ => exact (World.cell?_alloc_mark w _ t (0, 0) 0).trans rfl
  | 1, _ => exact (World.cell?_alloc_mark w _ t (0, 0) 1).trans rfl

set_option linter.unusedSimpArgs false in
set_option maxRecDepth 100000 in
set_option maxHeartbeats 8000000 in
theorem law_talks (hLs : Lsize) (hLh : Lholds) (hLc : Laccepts) (hLf : Lfake) (P Q G H ch : Int) (a : Option Addr) (n cap : Nat) (N A : Nat → Int) (FA : Nat → Option Addr) (RL RC : Nat → Nat) (RF : Nat → Nat → Int) (bt : Option Addr) (nt ct : Nat) (T : Nat → Int) (bb : Option Addr) (nb cb : Nat) (BA : Nat → Option Addr) (L C : Nat → Nat) (B : Nat → Nat → Int) (bk : Option Addr) (nk ck : Nat) (K : Nat → Int) (bz : Option Addr) (nz cz : Nat) (X : Nat → Int) (w : World) (h4 : Four P Q G H) (_hcap : n ≤ cap) (hin : RowsIn w a n N A FA RL RC RF) (hC : ClaimIn w bt nt ct T bb nb cb BA L C B) (hch : U64 ch) (hck : nk ≤ ck) (hK : FacsIn w bk nk K) (hcz : nz ≤ cz) (hX : FacsIn w bz nz X) :
    Calls Try.prog 5 #[gv P Q G H a n cap, cv bt nt ct bb nb cb, .agg #[.int .u64 ch, .slice bk nk ck, .slice bz nz cz]] w fun e w' => e = .returned (.bool true) ∧ Old w w' := by
  have HZ := lain3 w (gc P Q G H a n cap) (cc bt nt ct bb nb cb) #[.int .u64 ch, .slice bk nk ck, .slice bz nz cz] 25 40 48
  have HF : Hid (∀ w', Lain w [(gc P Q G H a n cap, 25), (cc bt nt ct bb nb cb, 40), (#[.int .u64 ch, .slice bk nk ck, .slice bz nz cz], 48)] w' → w'.cell? ⟨w.heap.size, 0, none⟩ = some (.int .u64 P) ∧ w'.cell? ⟨w.heap.size, 1, none⟩ = some (.int .u64 Q) ∧ w'.cell? ⟨w.heap.size, 2, none⟩ = some (.int .u64 G) ∧ w'.cell? ⟨w.heap.size, 3, none⟩ = some (.int .u64 H) ∧ w'.cell? ⟨w.heap.size, 4, none⟩ = some (.slice a n cap) ∧ w'.cell? ⟨w.heap.size + 1, 0, none⟩ = some (.slice bt nt ct) ∧ w'.cell? ⟨w.heap.size + 1, 1, none⟩ = some (.slice bb nb cb) ∧ w'.cell? ⟨w.heap.size + 1 + 1, 0, none⟩ = some (.int .u64 ch) ∧ w'.cell? ⟨w.heap.size + 1 + 1, 1, none⟩ = some (.slice bk nk ck) ∧ w'.cell? ⟨w.heap.size + 1 + 1, 2, none⟩ = some (.slice bz nz cz)) := fun _ h => ⟨h.cell 0 0 (by simp) rfl, h.cell 0 1 (by simp) rfl, h.cell 0 2 (by simp) rfl, h.cell 0 3 (by simp) rfl, h.cell 0 4 (by simp) rfl, h.cell 1 0 (by simp) rfl, h.cell 1 1 (by simp) rfl, h.cell 2 0 (by simp) rfl, h.cell 2 1 (by simp) rfl, h.cell 2 2 (by simp) rfl⟩
  have HA : Hid (∀ wx, Calls Try.prog 16 #[] wx fun e w' => e = .returned (.bool true) ∧ Old wx w') := fun wx => awake6_any hLs hLh wx
  have HU : Hid (∀ wx, Old w wx → Calls Try.prog 10 #[gv P Q G H a n cap] wx fun e w' => e = .returned (.bool (fewB RL n && rightI P Q G H N A RF RL n)) ∧ Old wx w') := fun wx ho => group5_any P Q G H a n cap N A FA RL RC RF wx h4 (hin.old ho)
  have HL : Hid (∀ wx t, Old w wx → Calls Try.prog 17 #[cv bt nt ct bb nb cb, .slice (some ⟨wx.heap.size, 0, none⟩) 2 2] (wx.alloc (.cells #[.slice bk nk ck, .slice bz nz cz] t)) fun e w' => e = .returned (.bool (fewC nt nb L 2 (two6 nk nz))) ∧ Old wx w') := fun wx t ho =>
    (few6_any bt nt ct bb nb cb BA L C _ 2 2 _ (two6 nk nz) _ _ (by omega) ((hC.bas.lens.old ho).old ((Old.refl _).alloc _)) (lens_two wx bk nk ck bz nz cz t)).mono fun e w' ⟨h, k⟩ => ⟨h, ((Old.refl _).alloc _).trans k⟩
  have ha := hin.a0
  clear hin
  go_enter Try.func5, Try.ntmps5
  go_upto_region 1 with fail
  generalize hW : ((w.alloc (.cells (gc P Q G H a n cap) 25)).alloc (.cells (cc bt nt ct bb nb cb) 40)).alloc (.cells #[.int .u64 ch, .slice bk nk ck, .slice bz nz cz] 48) = W at *
  clear hW
  have HW0 : Hid (Old w W) := HZ.old
  have HT : Hid (∀ w', Old W w' → w'.cell? ⟨w.heap.size, 0, none⟩ = some (.int .u64 P) ∧ w'.cell? ⟨w.heap.size, 1, none⟩ = some (.int .u64 Q) ∧ w'.cell? ⟨w.heap.size, 2, none⟩ = some (.int .u64 G) ∧ w'.cell? ⟨w.heap.size, 3, none⟩ = some (.int .u64 H) ∧ w'.cell? ⟨w.heap.size, 4, none⟩ = some (.slice a n cap) ∧ w'.cell? ⟨w.heap.size + 1, 0, none⟩ = some (.slice bt nt ct) ∧ w'.cell? ⟨w.heap.size + 1, 1, none⟩ = some (.slice bb nb cb) ∧ w'.cell? ⟨w.heap.size + 1 + 1, 0, none⟩ = some (.int .u64 ch) ∧ w'.cell? ⟨w.heap.size + 1 + 1, 1, none⟩ = some (.slice bk nk ck) ∧ w'.cell? ⟨w.heap.size + 1 + 1, 2, none⟩ = some (.slice bz nz cz)) := fun w' ho => HF.out _ (HZ.then ho)
  go_upto_region 3 with (go_at_call 16; refine (HA.out _).mono ?_; rintro e w1 ⟨rfl, h1⟩; obtain ⟨d0, d1, d2, d3, d4, t0, t1, s0, s1, s2⟩ := HT.out _ h1)
  cases hg : (fewB RL n && rightI P Q G H N A RF RL n)
  · rw [hg] at HU
    clear hg ha h4 hC hX hK hLs hLh hLc hLf
    go_wp2_with (go_at_call 10; refine (HU.out _ (HW0.out.trans h1)).mono ?_; rintro e w2 ⟨rfl, o2⟩)
    go_ret
    exact ⟨rfl, (HW0.out.trans h1).trans o2⟩
  have hg' := Bool.and_eq_true_iff.1 hg
  have hR := right_righ ha hg'.2
  rw [hg] at HU
  clear hg hg' ha
  cases hfw : fewC nt nb L 2 (two6 nk nz)
  · rw [hfw] at HL
    clear hfw h4 hC hX hK hLs hLh hLc hLf hR
    go_wp2_with (first
      | (go_at_call 10; refine (HU.out _ (HW0.out.trans h1)).mono ?_; rintro e w2 ⟨rfl, o2⟩; have h2 : Old W w2 := h1.trans o2; obtain ⟨d0, d1, d2, d3, d4, t0, t1, s0, s1, s2⟩ := HT.out _ h2)
      | (go_at_call 17; refine (HL.out _ _ (HW0.out.trans h2)).mono ?_; rintro e w3 ⟨rfl, o3⟩; have h3 : Old W w3 := h2.trans o3))
    go_ret
    exact ⟨rfl, HW0.out.trans h3⟩
  rw [hfw] at HL
  have hfI := fewC_iff.1 hfw
  have hfew : FewI nt nb L := ⟨hfI.1, hfI.2.1, hfI.2.2.1⟩
  have hnk : nk ≤ 80 := hfI.2.2.2 0 (by omega)
  have hnz : nz ≤ 80 := hfI.2.2.2 1 (by omega)
  clear hfw hfI
  have H1 : Hid (∀ wx, Old w wx → Calls Try.prog 25 #[gv P Q G H a n cap, cv bt nt ct bb nb cb, .int .u64 ch, .slice bz nz cz] wx (Gives wx (fitsB (sizeN P Q nt T nb L B) nz) nt (fun j => overI P (imI P Q (B j) X (sizeN P Q nt T nb L B)) (expI P Q (T j) ch)))) := fun wx ho => hLf P Q G H a n cap bt nt ct T bb nb cb BA L C B ch bz nz cz X wx h4 hR hfew hch hnz hcz (hC.old ho) (hX.old ho)
  have H2 : Hid (∀ wx, Old w wx → Calls Try.prog 26 #[gv P Q G H a n cap, cv bt nt ct bb nb cb, .int .u64 ch, .slice bz nz cz] wx (Gives wx (fitsB (sizeN P Q nt T nb L B) nz) nt (fun j => overI P (imI P Q (B j) X (sizeN P Q nt T nb L B)) (expI P Q (T j) ch)))) := fun wx ho => rfake_any P Q G H a n cap bt nt ct T bb nb cb BA L C B ch bz nz cz X wx h4 hch (hC.old ho) (hX.old ho)
  have H3 : Hid (∀ wx, Old w wx → Calls Try.prog 27 #[gv P Q G H a n cap, cv bt nt ct bb nb cb, .slice bk nk ck, .int .u64 ch, .slice bz nz cz] wx fun e w' => e = .returned (.bool (accB P Q nt T nb L B nk K ch nz X)) ∧ Old wx w') := fun wx ho => hLc P Q G H a n cap bt nt ct T bb nb cb BA L C B bk nk ck K ch bz nz cz X wx h4 hR hfew hch hnk hck hnz hcz (hC.old ho) (hK.old ho) (hX.old ho)
  have H4 : Hid (∀ wx, Old w wx → Calls Try.prog 28 #[gv P Q G H a n cap, cv bt nt ct bb nb cb, .slice bk nk ck, .int .u64 ch, .slice bz nz cz] wx fun e w' => e = .returned (.bool (accB P Q nt T nb L B nk K ch nz X)) ∧ Old wx w') := fun wx ho => raccepts_any P Q G H a n cap bt nt ct T bb nb cb BA L C B bk nk ck K ch bz nz cz X wx h4 hch (hC.old ho) (hK.old ho) (hX.old ho)
  have HFU : Hid (∀ j, U64 ((fun j => overI P (imI P Q (B j) X (sizeN P Q nt T nb L B)) (expI P Q (T j) ch)) j)) := fun j => u64_mul _ _ _
  have hk64 : fitsB (sizeN P Q nt T nb L B) nz = true → nt ≤ 64 := fun h => (sizeN_claim (fitsB_iff.1 h).1).t64
  have hk : (if fitsB (sizeN P Q nt T nb L B) nz = true then nt else 0) ≤ 64 := by
    split
    · rename_i h; exact hk64 h
    · omega
  clear hk64 h4 hC hX hK hLs hLh hLc hLf hR hfew
  generalize accB P Q nt T nb L B nk K ch nz X = acc at *
  generalize (fun j => overI P (imI P Q (B j) X (sizeN P Q nt T nb L B)) (expI P Q (T j) ch)) = F at *
  generalize fitsB (sizeN P Q nt T nb L B) nz = ok at *
  generalize sizeN P Q nt T nb L B = sz at *
  go_upto_region 5 with (first
    | (go_at_call 10; refine (HU.out _ (HW0.out.trans h1)).mono ?_; rintro e w2 ⟨rfl, o2⟩; have h2 : Old W w2 := h1.trans o2; obtain ⟨d0, d1, d2, d3, d4, t0, t1, s0, s1, s2⟩ := HT.out _ h2)
    | (go_at_call 17; refine (HL.out _ _ (HW0.out.trans h2)).mono ?_; rintro e w3 ⟨rfl, o3⟩; have h3 : Old W w3 := h2.trans o3; obtain ⟨d0, d1, d2, d3, d4, t0, t1, s0, s1, s2⟩ := HT.out _ h3))
  go_upto_region 6 with (go_at_call 25; refine (H1.out _ (HW0.out.trans h3)).mono ?_; rintro e w4 ⟨x4, rfl, hN4, o4⟩)
  have h4 : Old W w4 := h3.trans o4
  obtain ⟨b4, c4, rfl, _, _, hf4⟩ := hN4.facs2 (fun j _ => HFU.out j)
  clear d0 d1 d2 d3 d4 t0 t1 s0 s1 s2
  obtain ⟨d0, d1, d2, d3, d4, t0, t1, s0, s1, s2⟩ := HT.out _ h4
  go_upto_region 7 with (go_at_call 26; refine (H2.out _ (HW0.out.trans h4)).mono ?_; rintro e w5 ⟨x5, rfl, hN5, o5⟩)
  have h5 : Old W w5 := h4.trans o5
  obtain ⟨b5, c5, rfl, _, _, hf5⟩ := hN5.facs2 (fun j _ => HFU.out j)
  clear d0 d1 d2 d3 d4 t0 t1 s0 s1 s2
  have HS : Hid (∀ wx, Old w5 wx → Calls Try.prog 22 #[.slice b4 (if ok = true then nt else 0) c4, .slice b5 (if ok = true then nt else 0) c5] wx fun e w' => e = .returned (.bool true) ∧ Old wx w') := fun wx ho =>
    (rsame_any b4 _ c4 F b5 _ c5 F wx (by omega) (hf4.old (o5.trans ho)) (hf5.old ho)).mono fun e w' ⟨h, k⟩ => ⟨by rw [h, same_self], k⟩
  have HT5 : Hid (∀ w', Old w5 w' → w'.cell? ⟨w.heap.size, 0, none⟩ = some (.int .u64 P) ∧ w'.cell? ⟨w.heap.size, 1, none⟩ = some (.int .u64 Q) ∧ w'.cell? ⟨w.heap.size, 2, none⟩ = some (.int .u64 G) ∧ w'.cell? ⟨w.heap.size, 3, none⟩ = some (.int .u64 H) ∧ w'.cell? ⟨w.heap.size, 4, none⟩ = some (.slice a n cap) ∧ w'.cell? ⟨w.heap.size + 1, 0, none⟩ = some (.slice bt nt ct) ∧ w'.cell? ⟨w.heap.size + 1, 1, none⟩ = some (.slice bb nb cb) ∧ w'.cell? ⟨w.heap.size + 1 + 1, 0, none⟩ = some (.int .u64 ch) ∧ w'.cell? ⟨w.heap.size + 1 + 1, 1, none⟩ = some (.slice bk nk ck) ∧ w'.cell? ⟨w.heap.size + 1 + 1, 2, none⟩ = some (.slice bz nz cz)) := fun w' ho => HT.out _ (h5.trans ho)
  have HOw : Hid (∀ w', Old w5 w' → Old w w') := fun w' ho => (HW0.out.trans h5).trans ho
  generalize (if ok = true then nt else 0) = kk at *
  clear hN4 hN5 hf4 hf5 o4 o5 h1 h2 h3 h4 h5 o2 o3 HA HU HL H1 H2 HT HF HZ hk HFU
  obtain ⟨d0, d1, d2, d3, d4, t0, t1, s0, s1, s2⟩ := HT5.out _ (Old.refl _)
  go_region_held3 (fun w' => w'.cell? ⟨w.heap.size, 0, none⟩ = some (.int .u64 P) ∧ w'.cell? ⟨w.heap.size, 1, none⟩ = some (.int .u64 Q) ∧ w'.cell? ⟨w.heap.size, 2, none⟩ = some (.int .u64 G) ∧ w'.cell? ⟨w.heap.size, 3, none⟩ = some (.int .u64 H) ∧ w'.cell? ⟨w.heap.size, 4, none⟩ = some (.slice a n cap) ∧ w'.cell? ⟨w.heap.size + 1, 0, none⟩ = some (.slice bt nt ct) ∧ w'.cell? ⟨w.heap.size + 1, 1, none⟩ = some (.slice bb nb cb) ∧ w'.cell? ⟨w.heap.size + 1 + 1, 0, none⟩ = some (.int .u64 ch) ∧ w'.cell? ⟨w.heap.size + 1 + 1, 1, none⟩ = some (.slice bk nk ck) ∧ w'.cell? ⟨w.heap.size + 1 + 1, 2, none⟩ = some (.slice bz nz cz)) (first | exact HT5.out _ h8 | exact HT5.out _ h7 | exact HT5.out _ h6 | exact HT5.out _ (Old.refl _).drew) (first
    | (go_at_call 27; refine (H3.out _ (HOw.out _ (Old.refl _).drew)).mono ?_; rintro e w6 ⟨rfl, o6⟩; have h6 : Old w5 w6 := (Old.refl _).drew.trans o6)
    | (go_at_call 28; refine (H4.out _ (HOw.out _ h6)).mono ?_; rintro e w7 ⟨rfl, o7⟩; have h7 : Old w5 w7 := h6.trans o7)
    | (go_at_call 22; refine (HS.out _ h7).mono ?_; rintro e w8 ⟨rfl, o8⟩; have h8 : Old w5 w8 := h7.trans o8))
  go_wp2_with fail
  go_ret
  exact ⟨by simp, HOw.out _ h8⟩

end Go.Proofs.Ytmmicbdjafolpae

namespace Go.Proofs.Ytmmicbdjafolpae
open Go.RowKit

theorem c_last {w W : World} (h : Old w W) (x y : Value) (t : TypeId) : Old w (W.alloc (.cells #[x, y] t)) ∧ (W.alloc (.cells #[x, y] t)).cell? ⟨W.heap.size, 0, none⟩ = some x ∧ (W.alloc (.cells #[x, y] t)).cell? ⟨W.heap.size, 1, none⟩ = some y :=
  ⟨h.alloc _, (World.cell?_alloc_mark W _ t (0, 0) 0).trans rfl, (World.cell?_alloc_mark W _ t (0, 0) 1).trans rfl⟩

/-- The claim that was made is one, of as many. -/
theorem IsClaim.made {P Q G : Int} (h : Righ P Q G) {nb : Nat} {L : Nat → Nat} {B : Nat → Nat → Int} {sz : Nat} (hc : IsClaim P Q nb (fun _ => 1) nb L B sz) (X : Nat → Int) : IsClaim P Q nb (fun j => imI P Q (B j) X sz) nb L B sz :=
  ⟨hc.t1, hc.t64, hc.nb, hc.n1, hc.n64, hc.len, fun j hj => h.im_in sz (hc.bin j hj), hc.bin⟩
theorem IsClaim.holds {P Q : Int} {nb : Nat} {T : Nat → Int} {L : Nat → Nat} {B : Nat → Nat → Int} {sz : Nat} (hc : IsClaim P Q nb T nb L B sz) {X : Nat → Int} (hT : ∀ j, j < nb → imI P Q (B j) X sz = T j) : holdsL P Q nb T nb L B sz X = true := by
  unfold holdsL
  rw [hc.size, Bool.and_eq_true_iff]
  exact ⟨fitsB_iff.2 ⟨by have := hc.n1; omega, rfl⟩, sameB_iff.2 ⟨rfl, hT⟩⟩
theorem IsClaim.acc {P Q G ch : Int} (h : Righ P Q G) {nb : Nat} {L : Nat → Nat} {B : Nat → Nat → Int} {sz : Nat} {X Y : Nat → Int} (hc : IsClaim P Q nb (fun j => imI P Q (B j) X sz) nb L B sz) (hX : ∀ k, k < sz → 0 ≤ X k) (hY : ∀ k, k < sz → 0 ≤ Y k) (he : 0 ≤ ch) :
    accB P Q nb (fun j => imI P Q (B j) X sz) nb L B nb (fun j => imI P Q (B j) Y sz) ch sz (fun k => ansI Q ch (X k) (Y k)) = true := by
  refine accB_iff.2 ⟨by rw [hc.size]; exact fitsB_iff.2 ⟨by have := hc.n1; omega, rfl⟩, rfl, fun j hj => ⟨h.im_in sz (hc.bin j hj), ?_⟩⟩
  rw [hc.size]
  exact h.im_ans sz (hc.bin j hj) hX hY he

set_option linter.unusedSimpArgs false in
set_option maxRecDepth 100000 in
set_option maxHeartbeats 8000000 in
theorem law_whole (hLs : Lsize) (hLh : Lholds) (hLi : Limage) (hLa : Lanswer) (hLc : Laccepts) (P Q G H ch : Int) (a : Option Addr) (n cap : Nat) (N A : Nat → Int) (FA : Nat → Option Addr) (RL RC : Nat → Nat) (RF : Nat → Nat → Int) (bb : Option Addr) (nb cb : Nat) (BA : Nat → Option Addr) (L C : Nat → Nat) (B : Nat → Nat → Int) (b1 : Option Addr) (n1 c1 : Nat) (X : Nat → Int) (b2 : Option Addr) (n2 c2 : Nat) (Y : Nat → Int) (w : World) (h4 : Four P Q G H) (_hcap : n ≤ cap) (hin : RowsIn w a n N A FA RL RC RF) (hnb : nb ≤ 5864062014634) (hcb : nb ≤ cb) (hcm : cb ≤ 9223372036854775807) (hB : ListsIn w bb nb BA L C B) (hch : U64 ch) (hc1 : n1 ≤ c1) (hX : FacsIn w b1 n1 X) (hc2 : n2 ≤ c2) (hY : FacsIn w b2 n2 Y) :
    Calls Try.prog 7 #[gv P Q G H a n cap, .slice bb nb cb, .agg #[.int .u64 ch, .slice b1 n1 c1, .slice b2 n2 c2]] w fun e w' => e = .returned (.bool true) ∧ Old w w' := by
  have HZ := lain2 w (gc P Q G H a n cap) #[.int .u64 ch, .slice b1 n1 c1, .slice b2 n2 c2] 25 48
  have HF : Hid (∀ w', Lain w [(gc P Q G H a n cap, 25), (#[.int .u64 ch, .slice b1 n1 c1, .slice b2 n2 c2], 48)] w' → w'.cell? ⟨w.heap.size, 0, none⟩ = some (.int .u64 P) ∧ w'.cell? ⟨w.heap.size, 1, none⟩ = some (.int .u64 Q) ∧ w'.cell? ⟨w.heap.size, 2, none⟩ = some (.int .u64 G) ∧ w'.cell? ⟨w.heap.size, 3, none⟩ = some (.int .u64 H) ∧ w'.cell? ⟨w.heap.size, 4, none⟩ = some (.slice a n cap) ∧ w'.cell? ⟨w.heap.size + 1, 0, none⟩ = some (.int .u64 ch) ∧ w'.cell? ⟨w.heap.size + 1, 1, none⟩ = some (.slice b1 n1 c1) ∧ w'.cell? ⟨w.heap.size + 1, 2, none⟩ = some (.slice b2 n2 c2)) := fun _ h => ⟨h.cell 0 0 (by simp) rfl, h.cell 0 1 (by simp) rfl, h.cell 0 2 (by simp) rfl, h.cell 0 3 (by simp) rfl, h.cell 0 4 (by simp) rfl, h.cell 1 0 (by simp) rfl, h.cell 1 1 (by simp) rfl, h.cell 1 2 (by simp) rfl⟩
  have HA : Hid (∀ wx, Calls Try.prog 16 #[] wx fun e w' => e = .returned (.bool true) ∧ Old wx w') := fun wx => awake6_any hLs hLh wx
  have HU : Hid (∀ wx, Old w wx → Calls Try.prog 10 #[gv P Q G H a n cap] wx fun e w' => e = .returned (.bool (fewB RL n && rightI P Q G H N A RF RL n)) ∧ Old wx w') := fun wx ho => group5_any P Q G H a n cap N A FA RL RC RF wx h4 (hin.old ho)
  have HM : Hid (∀ wx, Old w wx → Calls Try.prog 35 #[gv P Q G H a n cap, .slice bb nb cb, .slice b1 n1 c1] wx (MadeC (fewC nb nb L 1 (fun _ => n1)) (fitsB (sizeN P Q nb (fun _ => 1) nb L B) n1) (fun j => imI P Q (B j) X (sizeN P Q nb (fun _ => 1) nb L B)) bb nb cb BA L C B wx)) := fun wx ho => claim6_any P Q G H a n cap bb nb cb BA L C B b1 n1 c1 X wx h4 hnb hcb hcm (hB.old ho) (hX.old ho)
  have ha := hin.a0
  clear hin
  go_enter Try.func7, Try.ntmps7
  go_upto_region 1 with fail
  generalize hW : (w.alloc (.cells (gc P Q G H a n cap) 25)).alloc (.cells #[.int .u64 ch, .slice b1 n1 c1, .slice b2 n2 c2] 48) = W at *
  clear hW
  have HW0 : Hid (Old w W) := HZ.old
  have HT : Hid (∀ w', Old W w' → w'.cell? ⟨w.heap.size, 0, none⟩ = some (.int .u64 P) ∧ w'.cell? ⟨w.heap.size, 1, none⟩ = some (.int .u64 Q) ∧ w'.cell? ⟨w.heap.size, 2, none⟩ = some (.int .u64 G) ∧ w'.cell? ⟨w.heap.size, 3, none⟩ = some (.int .u64 H) ∧ w'.cell? ⟨w.heap.size, 4, none⟩ = some (.slice a n cap) ∧ w'.cell? ⟨w.heap.size + 1, 0, none⟩ = some (.int .u64 ch) ∧ w'.cell? ⟨w.heap.size + 1, 1, none⟩ = some (.slice b1 n1 c1) ∧ w'.cell? ⟨w.heap.size + 1, 2, none⟩ = some (.slice b2 n2 c2)) := fun w' ho => HF.out _ (HZ.then ho)
  go_upto_region 3 with (go_at_call 16; refine (HA.out _).mono ?_; rintro e w1 ⟨rfl, h1⟩; obtain ⟨d0, d1, d2, d3, d4, t0, t1, t2⟩ := HT.out _ h1)
  cases hg : (fewB RL n && rightI P Q G H N A RF RL n)
  · rw [hg] at HU
    clear hg ha h4 hX hY hLs hLh hLi hLa hLc hB
    go_wp2_with (go_at_call 10; refine (HU.out _ (HW0.out.trans h1)).mono ?_; rintro e w2 ⟨rfl, o2⟩)
    go_ret
    exact ⟨rfl, (HW0.out.trans h1).trans o2⟩
  have hg' := Bool.and_eq_true_iff.1 hg
  have hR := right_righ ha hg'.2
  rw [hg] at HU
  clear hg hg' ha
  go_upto_region 5 with (go_at_call 10; refine (HU.out _ (HW0.out.trans h1)).mono ?_; rintro e w2 ⟨rfl, o2⟩; have h2 : Old W w2 := h1.trans o2; obtain ⟨d0, d1, d2, d3, d4, t0, t1, t2⟩ := HT.out _ h2)
  go_upto_region 6 with (go_at_call 35; refine (HM.out _ (HW0.out.trans h2)).mono ?_; rintro e w3 ⟨bt, nt, ct, o, rfl, o3, hmk⟩)
  have h3 : Old W w3 := h2.trans o3
  have hcl0 := c_last (Old.refl w3) (.slice bt nt ct) (.slice bb nb cb) 40
  clear d0 d1 d2 d3 d4 t0 t1 t2
  generalize w3.alloc (.cells #[.slice bt nt ct, .slice bb nb cb] 40) = w4 at *
  generalize hbc : w3.heap.size = bc at *
  have h5 : Old W w4 := h3.trans hcl0.1
  obtain ⟨d0, d1, d2, d3, d4, t0, t1, t2⟩ := HT.out _ h5
  cases o with
  | false =>
    clear h4 hX hY hLs hLh hLi hLa hLc hB hmk hR
    go_wp2_with fail
    go_ret
    exact ⟨rfl, HW0.out.trans h5⟩
  | true =>
    obtain ⟨hfw, hft, hnt, hcl⟩ := hmk rfl
    subst hnt
    by_cases hn : n1 = n2
    · subst hn
      have hfI := fewC_iff.1 hfw
      have hfew : FewI nt nt L := ⟨hfI.1, hfI.2.1, hfI.2.2.1⟩
      have m1 : n1 ≤ 80 := hfI.2.2.2 0 (by omega)
      have hIs := sizeN_claim (fitsB_iff.1 hft).1
      have hsz := (fitsB_iff.1 hft).2
      rw [← hsz] at hIs hcl
      have hI2 := hIs.made hR X
      have hC4 : ClaimIn w4 bt nt ct (fun j => imI P Q (B j) X n1) bb nt cb BA L C B := hcl.old hcl0.1
      have e1 : holdsL P Q nt (fun j => imI P Q (B j) X n1) nt L B n1 X = true := hI2.holds fun _ _ => rfl
      have e2 := hI2.acc hR (Y := Y) (fun k hk => (hX.u64 k hk).1) (fun k hk => (hY.u64 k hk).1) hch.1
      have e3 : fitsB (sizeN P Q nt (fun j => imI P Q (B j) X n1) nt L B) n1 = true := by rw [hI2.size]; exact fitsB_iff.2 ⟨by have := hI2.n1; omega, rfl⟩
      have H1 : Hid (∀ wx, Old w4 wx → Calls Try.prog 18 #[gv P Q G H a n cap, cv bt nt ct bb nt cb, .slice b2 n1 c2] wx (Gives wx true nt (fun j => imI P Q (B j) Y n1))) := fun wx ho => by
        have := hLi P Q G H a n cap bt nt ct (fun j => imI P Q (B j) X n1) bb nt cb BA L C B b2 n1 c2 Y wx h4 hR hfew m1 hc2 (hC4.old ho) (hY.old ((HW0.out.trans h5).trans ho))
        rwa [e3, hI2.size] at this
      have H2 : Hid (∀ wx, Old w4 wx → Calls Try.prog 29 #[gv P Q G H a n cap, .slice b1 n1 c1, .slice b2 n1 c2, .int .u64 ch] wx (Gives wx true n1 (fun k => ansI Q ch (X k) (Y k)))) := fun wx ho => by
        have := hLa P Q G H a n cap b1 n1 c1 X b2 n1 c2 Y ch wx h4 hR hch m1 m1 hc1 hc2 (hX.old ((HW0.out.trans h5).trans ho)) (hY.old ((HW0.out.trans h5).trans ho))
        rwa [decide_eq_true rfl] at this
      have H3 : Hid (∀ wx, Old w4 wx → Calls Try.prog 23 #[gv P Q G H a n cap, cv bt nt ct bb nt cb, .slice b1 n1 c1] wx fun e w' => e = .returned (.bool true) ∧ Old wx w') := fun wx ho => by
        have := hLh P Q G H a n cap bt nt ct (fun j => imI P Q (B j) X n1) bb nt cb BA L C B b1 n1 c1 X wx h4 hR hfew m1 hc1 (hC4.old ho) (hX.old ((HW0.out.trans h5).trans ho))
        rwa [e1] at this
      have H4 : Hid (∀ bk ck bz cz wx, Old w4 wx → nt ≤ ck → n1 ≤ cz → FacsIn wx bk nt (fun j => imI P Q (B j) Y n1) → FacsIn wx bz n1 (fun k => ansI Q ch (X k) (Y k)) → Calls Try.prog 27 #[gv P Q G H a n cap, cv bt nt ct bb nt cb, .slice bk nt ck, .int .u64 ch, .slice bz n1 cz] wx fun e w' => e = .returned (.bool true) ∧ Old wx w') := fun bk ck bz cz wx ho q1 q2 f1 f2 => by
        have := hLc P Q G H a n cap bt nt ct (fun j => imI P Q (B j) X n1) bb nt cb BA L C B bk nt ck (fun j => imI P Q (B j) Y n1) ch bz n1 cz (fun k => ansI Q ch (X k) (Y k)) wx h4 hR hfew hch (by have := hfew.1; omega) q1 m1 q2 (hC4.old ho) f1 f2
        rwa [e2] at this
      have F1 : Hid (∀ j, U64 ((fun j => imI P Q (B j) Y n1) j)) := fun j => u64_prod _ _ _
      have F2 : Hid (∀ j, U64 ((fun k => ansI Q ch (X k) (Y k)) j)) := fun j => by have := addI_bd (Y j) (mulI ch (X j) Q) Q; show U64 (addI _ _ _); unfold U64; omega
      have HC : Hid (∀ w', Old w4 w' → w'.cell? ⟨bc, 0, none⟩ = some (.slice bt nt ct) ∧ w'.cell? ⟨bc, 1, none⟩ = some (.slice bb nt cb)) := fun w' ho => ⟨ho.cellOf hcl0.2.1, ho.cellOf hcl0.2.2⟩
      have HT4 : Hid (∀ w', Old w4 w' → w'.cell? ⟨w.heap.size, 0, none⟩ = some (.int .u64 P) ∧ w'.cell? ⟨w.heap.size, 1, none⟩ = some (.int .u64 Q) ∧ w'.cell? ⟨w.heap.size, 2, none⟩ = some (.int .u64 G) ∧ w'.cell? ⟨w.heap.size, 3, none⟩ = some (.int .u64 H) ∧ w'.cell? ⟨w.heap.size, 4, none⟩ = some (.slice a n cap) ∧ w'.cell? ⟨w.heap.size + 1, 0, none⟩ = some (.int .u64 ch) ∧ w'.cell? ⟨w.heap.size + 1, 1, none⟩ = some (.slice b1 n1 c1) ∧ w'.cell? ⟨w.heap.size + 1, 2, none⟩ = some (.slice b2 n1 c2)) := fun w' ho => HT.out _ (h5.trans ho)
      have HOw : Hid (∀ w', Old w4 w' → Old w w') := fun w' ho => (HW0.out.trans h5).trans ho
      clear e1 e2 e3 hC4 hI2 hIs hcl hsz hfw hft hfI hfew hmk h4 hR hLs hLh hLi hLa hLc hX hY hB HM HU HA HZ HF HT hcl0 hnb hcm
      generalize (fun j => imI P Q (B j) Y n1) = A1 at *
      generalize (fun k => ansI Q ch (X k) (Y k)) = A2 at *
      obtain ⟨z0, z1⟩ := HC.out _ (Old.refl _)
      go_upto_region 9 with (go_at_call 18; refine (H1.out _ (Old.refl _)).mono ?_; rintro e w6 ⟨x6, rfl, hN6, h6⟩)
      simp only [if_true] at hN6
      obtain ⟨b6, c6, rfl, q6, _, hf6⟩ := hN6.facs2 (fun j _ => F1.out j)
      clear d0 d1 d2 d3 d4 t0 t1 t2 z0 z1
      obtain ⟨d0, d1, d2, d3, d4, t0, t1, t2⟩ := HT4.out _ h6
      obtain ⟨z0, z1⟩ := HC.out _ h6
      go_upto_region 10 with (go_at_call 29; refine (H2.out _ h6).mono ?_; rintro e w7 ⟨x7, rfl, hN7, o7⟩)
      simp only [if_true] at hN7
      obtain ⟨b7, c7, rfl, q7, _, hf7⟩ := hN7.facs2 (fun j _ => F2.out j)
      have h7 : Old w4 w7 := h6.trans o7
      have H5 : Hid (∀ wx, Old w7 wx → Calls Try.prog 27 #[gv P Q G H a n cap, cv bt nt ct bb nt cb, .slice b6 nt c6, .int .u64 ch, .slice b7 n1 c7] wx fun e w' => e = .returned (.bool true) ∧ Old wx w') := fun wx ho => H4.out b6 c6 b7 c7 wx (h7.trans ho) q6 q7 (hf6.old (o7.trans ho)) (hf7.old ho)
      clear d0 d1 d2 d3 d4 t0 t1 t2 z0 z1 hN6 hN7 hf6 hf7
      obtain ⟨d0, d1, d2, d3, d4, t0, t1, t2⟩ := HT4.out _ h7
      obtain ⟨z0, z1⟩ := HC.out _ h7
      go_wp2_with (first
        | (go_at_call 23; refine (H3.out _ h7).mono ?_; rintro e w8 ⟨rfl, o8⟩; have h8 : Old w4 w8 := h7.trans o8; obtain ⟨d0, d1, d2, d3, d4, t0, t1, t2⟩ := HT4.out _ h8; obtain ⟨z0, z1⟩ := HC.out _ h8)
        | (go_at_call 27; refine (H5.out _ o8).mono ?_; rintro e w9 ⟨rfl, o9⟩; have h9 : Old w4 w9 := h8.trans o9))
      go_ret
      exact ⟨rfl, HOw.out _ h9⟩
    · have k2 : ¬ (n2 : Int) = (n1 : Int) := by omega
      have k4 : ((n2 : Int) != (n1 : Int)) = true := by simp; omega
      have k5 : ((n2 : Int) == (n1 : Int)) = false := by simp; omega
      clear h4 hX hY hLs hLh hLi hLa hLc hB hmk hR hcl hfw hft
      go_wp2_with fail
      go_ret
      exact ⟨rfl, HW0.out.trans h5⟩

end Go.Proofs.Ytmmicbdjafolpae

namespace Go.Proofs.Ytmmicbdjafolpae
open Go.RowKit

/-- What is faked is accepted. -/
theorem IsClaim.faked {P Q G ch : Int} (h : Righ P Q G) {nt nb : Nat} {T : Nat → Int} {L : Nat → Nat} {B : Nat → Nat → Int} {sz : Nat} {X : Nat → Int} (hc : IsClaim P Q nt T nb L B sz) :
    accB P Q nt T nb L B nt (fun j => overI P (imI P Q (B j) X sz) (expI P Q (T j) ch)) ch sz X = true := by
  refine accB_iff.2 ⟨by rw [hc.size]; exact fitsB_iff.2 ⟨by have := hc.n1; omega, rfl⟩, rfl, fun j hj => ?_⟩
  have hi := h.im_in (W := X) sz (hc.bin j hj)
  have ht := h.exp_in (e := ch) (hc.tin j hj)
  rw [hc.size]
  exact ⟨h.over_in hi ht, (h.fake_acc hi ht).symm⟩
/-- Of two accepted talks with one beginning the claim holds for what is extracted. -/
theorem IsClaim.drawn {P Q G e f : Int} (h : Righ P Q G) {nt nb : Nat} {T K : Nat → Int} {L : Nat → Nat} {B : Nat → Nat → Int} {sz m : Nat} {X Y : Nat → Int} (hc : IsClaim P Q nt T nb L B sz) (hY : ∀ k, k < sz → 0 ≤ Y k) (he : 0 ≤ e) (hf : 0 ≤ f) (hne : e % Q ≠ f % Q)
    (a1 : accB P Q nt T nb L B nt K e sz X = true) (a2 : accB P Q nt T nb L B nt K f m Y = true) : m = sz ∧ holdsL P Q nt T nb L B sz (fun k => exI Q (invI (subI e f Q) Q) (X k) (Y k)) = true := by
  obtain ⟨_, _, r1⟩ := accB_iff.1 a1
  obtain ⟨f2, _, r2⟩ := accB_iff.1 a2
  have hm : m = sz := by have := (fitsB_iff.1 f2).2; rw [hc.size] at this; exact this
  subst hm
  refine ⟨rfl, ?_⟩
  unfold holdsL
  rw [hc.size, Bool.and_eq_true_iff]
  refine ⟨fitsB_iff.2 ⟨by have := hc.n1; omega, rfl⟩, sameB_iff.2 ⟨rfl, fun j hj => ?_⟩⟩
  have q1 := (r1 j hj).2
  have q2 := (r2 j hj).2
  rw [hc.size] at q1 q2
  exact h.extracts m (hc.bin j hj) hY he hf (hc.tin j hj) hne q1 q2

set_option linter.unusedSimpArgs false in
set_option maxRecDepth 100000 in
set_option maxHeartbeats 8000000 in
theorem law_extracts (hLs : Lsize) (hLh : Lholds) (hLe : Lextract) (hLc : Laccepts) (hLf : Lfake) (P Q G H e0 e1 : Int) (a : Option Addr) (n cap : Nat) (N A : Nat → Int) (FA : Nat → Option Addr) (RL RC : Nat → Nat) (RF : Nat → Nat → Int) (bt : Option Addr) (nt ct : Nat) (T : Nat → Int) (bb : Option Addr) (nb cb : Nat) (BA : Nat → Option Addr) (L C : Nat → Nat) (B : Nat → Nat → Int) (k0 : Option Addr) (m0 p0 : Nat) (b0 : Option Addr) (n0 c0 : Nat) (X : Nat → Int) (k1 : Option Addr) (m1 p1 : Nat) (b1 : Option Addr) (n1 c1 : Nat) (Y : Nat → Int) (w : World) (h4 : Four P Q G H) (_hcap : n ≤ cap) (hin : RowsIn w a n N A FA RL RC RF) (hC : ClaimIn w bt nt ct T bb nb cb BA L C B) (he0 : U64 e0) (hc0 : n0 ≤ c0) (hX : FacsIn w b0 n0 X) (he1 : U64 e1) (hc1 : n1 ≤ c1) (hY : FacsIn w b1 n1 Y) :
    Calls Try.prog 8 #[gv P Q G H a n cap, cv bt nt ct bb nb cb, .agg #[.int .u64 e0, .slice k0 m0 p0, .slice b0 n0 c0, .int .u64 e1, .slice k1 m1 p1, .slice b1 n1 c1]] w fun e w' => e = .returned (.bool true) ∧ Old w w' := by
  have HZ := lain3 w (gc P Q G H a n cap) (cc bt nt ct bb nb cb) #[.int .u64 e0, .slice k0 m0 p0, .slice b0 n0 c0, .int .u64 e1, .slice k1 m1 p1, .slice b1 n1 c1] 25 40 58
  have HF : Hid (∀ w', Lain w [(gc P Q G H a n cap, 25), (cc bt nt ct bb nb cb, 40), (#[.int .u64 e0, .slice k0 m0 p0, .slice b0 n0 c0, .int .u64 e1, .slice k1 m1 p1, .slice b1 n1 c1], 58)] w' → w'.cell? ⟨w.heap.size, 0, none⟩ = some (.int .u64 P) ∧ w'.cell? ⟨w.heap.size, 1, none⟩ = some (.int .u64 Q) ∧ w'.cell? ⟨w.heap.size, 2, none⟩ = some (.int .u64 G) ∧ w'.cell? ⟨w.heap.size, 3, none⟩ = some (.int .u64 H) ∧ w'.cell? ⟨w.heap.size, 4, none⟩ = some (.slice a n cap) ∧ w'.cell? ⟨w.heap.size + 1, 0, none⟩ = some (.slice bt nt ct) ∧ w'.cell? ⟨w.heap.size + 1, 1, none⟩ = some (.slice bb nb cb) ∧ w'.cell? ⟨w.heap.size + 1 + 1, 0, none⟩ = some (.int .u64 e0) ∧ w'.cell? ⟨w.heap.size + 1 + 1, 1, none⟩ = some (.slice k0 m0 p0) ∧ w'.cell? ⟨w.heap.size + 1 + 1, 2, none⟩ = some (.slice b0 n0 c0) ∧ w'.cell? ⟨w.heap.size + 1 + 1, 3, none⟩ = some (.int .u64 e1) ∧ w'.cell? ⟨w.heap.size + 1 + 1, 4, none⟩ = some (.slice k1 m1 p1) ∧ w'.cell? ⟨w.heap.size + 1 + 1, 5, none⟩ = some (.slice b1 n1 c1)) := fun _ h => ⟨h.cell 0 0 (by simp) rfl, h.cell 0 1 (by simp) rfl, h.cell 0 2 (by simp) rfl, h.cell 0 3 (by simp) rfl, h.cell 0 4 (by simp) rfl, h.cell 1 0 (by simp) rfl, h.cell 1 1 (by simp) rfl, h.cell 2 0 (by simp) rfl, h.cell 2 1 (by simp) rfl, h.cell 2 2 (by simp) rfl, h.cell 2 3 (by simp) rfl, h.cell 2 4 (by simp) rfl, h.cell 2 5 (by simp) rfl⟩
  have HA : Hid (∀ wx, Calls Try.prog 16 #[] wx fun e w' => e = .returned (.bool true) ∧ Old wx w') := fun wx => awake6_any hLs hLh wx
  have HU : Hid (∀ wx, Old w wx → Calls Try.prog 10 #[gv P Q G H a n cap] wx fun e w' => e = .returned (.bool (fewB RL n && rightI P Q G H N A RF RL n)) ∧ Old wx w') := fun wx ho => group5_any P Q G H a n cap N A FA RL RC RF wx h4 (hin.old ho)
  have HL : Hid (∀ wx t, Old w wx → Calls Try.prog 17 #[cv bt nt ct bb nb cb, .slice (some ⟨wx.heap.size, 0, none⟩) 2 2] (wx.alloc (.cells #[.slice b0 n0 c0, .slice b1 n1 c1] t)) fun e w' => e = .returned (.bool (fewC nt nb L 2 (two6 n0 n1))) ∧ Old wx w') := fun wx t ho =>
    (few6_any bt nt ct bb nb cb BA L C _ 2 2 _ (two6 n0 n1) _ _ (by omega) ((hC.bas.lens.old ho).old ((Old.refl _).alloc _)) (lens_two wx b0 n0 c0 b1 n1 c1 t)).mono fun e w' ⟨h, k⟩ => ⟨h, ((Old.refl _).alloc _).trans k⟩
  have ha := hin.a0
  clear hin
  go_enter Try.func8, Try.ntmps8
  go_upto_region 1 with fail
  generalize hW : ((w.alloc (.cells (gc P Q G H a n cap) 25)).alloc (.cells (cc bt nt ct bb nb cb) 40)).alloc (.cells #[.int .u64 e0, .slice k0 m0 p0, .slice b0 n0 c0, .int .u64 e1, .slice k1 m1 p1, .slice b1 n1 c1] 58) = W at *
  clear hW
  have HW0 : Hid (Old w W) := HZ.old
  have HT : Hid (∀ w', Old W w' → w'.cell? ⟨w.heap.size, 0, none⟩ = some (.int .u64 P) ∧ w'.cell? ⟨w.heap.size, 1, none⟩ = some (.int .u64 Q) ∧ w'.cell? ⟨w.heap.size, 2, none⟩ = some (.int .u64 G) ∧ w'.cell? ⟨w.heap.size, 3, none⟩ = some (.int .u64 H) ∧ w'.cell? ⟨w.heap.size, 4, none⟩ = some (.slice a n cap) ∧ w'.cell? ⟨w.heap.size + 1, 0, none⟩ = some (.slice bt nt ct) ∧ w'.cell? ⟨w.heap.size + 1, 1, none⟩ = some (.slice bb nb cb) ∧ w'.cell? ⟨w.heap.size + 1 + 1, 0, none⟩ = some (.int .u64 e0) ∧ w'.cell? ⟨w.heap.size + 1 + 1, 1, none⟩ = some (.slice k0 m0 p0) ∧ w'.cell? ⟨w.heap.size + 1 + 1, 2, none⟩ = some (.slice b0 n0 c0) ∧ w'.cell? ⟨w.heap.size + 1 + 1, 3, none⟩ = some (.int .u64 e1) ∧ w'.cell? ⟨w.heap.size + 1 + 1, 4, none⟩ = some (.slice k1 m1 p1) ∧ w'.cell? ⟨w.heap.size + 1 + 1, 5, none⟩ = some (.slice b1 n1 c1)) := fun w' ho => HF.out _ (HZ.then ho)
  go_upto_region 3 with (go_at_call 16; refine (HA.out _).mono ?_; rintro e w1 ⟨rfl, h1⟩; obtain ⟨d0, d1, d2, d3, d4, t0, t1, s0, s1, s2, s3, s4, s5⟩ := HT.out _ h1)
  cases hg : (fewB RL n && rightI P Q G H N A RF RL n)
  · rw [hg] at HU
    clear hg ha h4 hC hX hY hLs hLh hLe hLc hLf
    go_wp2_with (go_at_call 10; refine (HU.out _ (HW0.out.trans h1)).mono ?_; rintro e w2 ⟨rfl, o2⟩)
    go_ret
    exact ⟨rfl, (HW0.out.trans h1).trans o2⟩
  have hg' := Bool.and_eq_true_iff.1 hg
  have hR := right_righ ha hg'.2
  rw [hg] at HU
  clear hg hg' ha
  cases hfw : fewC nt nb L 2 (two6 n0 n1)
  · rw [hfw] at HL
    clear hfw h4 hC hX hY hLs hLh hLe hLc hLf hR
    go_wp2_with (first
      | (go_at_call 10; refine (HU.out _ (HW0.out.trans h1)).mono ?_; rintro e w2 ⟨rfl, o2⟩; have h2 : Old W w2 := h1.trans o2; obtain ⟨d0, d1, d2, d3, d4, t0, t1, s0, s1, s2, s3, s4, s5⟩ := HT.out _ h2)
      | (go_at_call 17; refine (HL.out _ _ (HW0.out.trans h2)).mono ?_; rintro e w3 ⟨rfl, o3⟩; have h3 : Old W w3 := h2.trans o3))
    go_ret
    exact ⟨rfl, HW0.out.trans h3⟩
  rw [hfw] at HL
  have hfI := fewC_iff.1 hfw
  have hfew : FewI nt nb L := ⟨hfI.1, hfI.2.1, hfI.2.2.1⟩
  have hn0 : n0 ≤ 80 := hfI.2.2.2 0 (by omega)
  have hn1 : n1 ≤ 80 := hfI.2.2.2 1 (by omega)
  clear hfw hfI
  go_upto_region 5 with (first
    | (go_at_call 10; refine (HU.out _ (HW0.out.trans h1)).mono ?_; rintro e w2 ⟨rfl, o2⟩; have h2 : Old W w2 := h1.trans o2; obtain ⟨d0, d1, d2, d3, d4, t0, t1, s0, s1, s2, s3, s4, s5⟩ := HT.out _ h2)
    | (go_at_call 17; refine (HL.out _ _ (HW0.out.trans h2)).mono ?_; rintro e w3 ⟨rfl, o3⟩; have h3 : Old W w3 := h2.trans o3; obtain ⟨d0, d1, d2, d3, d4, t0, t1, s0, s1, s2, s3, s4, s5⟩ := HT.out _ h3))
  have H1 : Hid (∀ wx, Old w wx → Calls Try.prog 25 #[gv P Q G H a n cap, cv bt nt ct bb nb cb, .int .u64 e0, .slice b0 n0 c0] wx (Gives wx (fitsB (sizeN P Q nt T nb L B) n0) nt (fun j => overI P (imI P Q (B j) X (sizeN P Q nt T nb L B)) (expI P Q (T j) e0)))) := fun wx ho => hLf P Q G H a n cap bt nt ct T bb nb cb BA L C B e0 b0 n0 c0 X wx h4 hR hfew he0 hn0 hc0 (hC.old ho) (hX.old ho)
  go_upto_region 6 with (go_at_call 25; refine (H1.out _ (HW0.out.trans h3)).mono ?_; rintro e w4 ⟨x4, rfl, hN4, o4⟩)
  have h5 : Old W w4 := h3.trans o4
  clear d0 d1 d2 d3 d4 t0 t1 s0 s1 s2 s3 s4 s5 H1 HA HU HL
  cases hok : fitsB (sizeN P Q nt T nb L B) n0
  · go_wp2_with fail
    go_ret
    exact ⟨rfl, HW0.out.trans h5⟩
  rw [hok] at hN4
  simp only [if_true] at hN4
  obtain ⟨b4, c4, rfl, q4, _, hf4⟩ := hN4.facs2 (fun j _ => u64_mul _ _ _)
  have hIs := sizeN_claim (fitsB_iff.1 hok).1
  have hsz := (fitsB_iff.1 hok).2
  rw [← hsz] at hIs hf4
  have a1 := hIs.faked hR (ch := e0) (X := X)
  obtain ⟨K, hK⟩ : ∃ K : Nat → Int, K = fun j => overI P (imI P Q (B j) X n0) (expI P Q (T j) e0) := ⟨_, rfl⟩
  rw [← hK] at a1 hf4
  have H2 : Hid (∀ wx, Old w4 wx → Calls Try.prog 27 #[gv P Q G H a n cap, cv bt nt ct bb nb cb, .slice b4 nt c4, .int .u64 e0, .slice b0 n0 c0] wx fun e w' => e = .returned (.bool true) ∧ Old wx w') := fun wx ho => by
    have := hLc P Q G H a n cap bt nt ct T bb nb cb BA L C B b4 nt c4 K e0 b0 n0 c0 X wx h4 hR hfew he0 (by have := hfew.1; omega) q4 hn0 hc0 (hC.old ((HW0.out.trans h5).trans ho)) (hf4.old ho) (hX.old ((HW0.out.trans h5).trans ho))
    rwa [a1] at this
  have H3 : Hid (∀ wx, Old w4 wx → Calls Try.prog 27 #[gv P Q G H a n cap, cv bt nt ct bb nb cb, .slice b4 nt c4, .int .u64 e1, .slice b1 n1 c1] wx fun e w' => e = .returned (.bool (accB P Q nt T nb L B nt K e1 n1 Y)) ∧ Old wx w') := fun wx ho => hLc P Q G H a n cap bt nt ct T bb nb cb BA L C B b4 nt c4 K e1 b1 n1 c1 Y wx h4 hR hfew he1 (by have := hfew.1; omega) q4 hn1 hc1 (hC.old ((HW0.out.trans h5).trans ho)) (hf4.old ho) (hY.old ((HW0.out.trans h5).trans ho))
  have HT4 : Hid (∀ w', Old w4 w' → w'.cell? ⟨w.heap.size, 0, none⟩ = some (.int .u64 P) ∧ w'.cell? ⟨w.heap.size, 1, none⟩ = some (.int .u64 Q) ∧ w'.cell? ⟨w.heap.size, 2, none⟩ = some (.int .u64 G) ∧ w'.cell? ⟨w.heap.size, 3, none⟩ = some (.int .u64 H) ∧ w'.cell? ⟨w.heap.size, 4, none⟩ = some (.slice a n cap) ∧ w'.cell? ⟨w.heap.size + 1, 0, none⟩ = some (.slice bt nt ct) ∧ w'.cell? ⟨w.heap.size + 1, 1, none⟩ = some (.slice bb nb cb) ∧ w'.cell? ⟨w.heap.size + 1 + 1, 0, none⟩ = some (.int .u64 e0) ∧ w'.cell? ⟨w.heap.size + 1 + 1, 1, none⟩ = some (.slice k0 m0 p0) ∧ w'.cell? ⟨w.heap.size + 1 + 1, 2, none⟩ = some (.slice b0 n0 c0) ∧ w'.cell? ⟨w.heap.size + 1 + 1, 3, none⟩ = some (.int .u64 e1) ∧ w'.cell? ⟨w.heap.size + 1 + 1, 4, none⟩ = some (.slice k1 m1 p1) ∧ w'.cell? ⟨w.heap.size + 1 + 1, 5, none⟩ = some (.slice b1 n1 c1)) := fun w' ho => HT.out _ (h5.trans ho)
  have HOw : Hid (∀ w', Old w4 w' → Old w w') := fun w' ho => (HW0.out.trans h5).trans ho
  have HQ : Hid (5 ≤ Q ∧ Q < 2305843009213693952) := ⟨hR.q0, hR.q1⟩
  have HEX : Hid (e0 % Q ≠ e1 % Q → accB P Q nt T nb L B nt K e1 n1 Y = true → n1 = n0 ∧ holdsL P Q nt T nb L B n0 (fun k => exI Q (invI (subI e0 e1 Q) Q) (X k) (Y k)) = true ∧ invB (subI e0 e1 Q) Q = true) := fun hne a2 => by
    have hm : n1 = n0 := by have := (fitsB_iff.1 (accB_iff.1 a2).1).2; rw [hIs.size] at this; exact this
    have := hIs.drawn hR (fun k hk => (hY.u64 k (by omega)).1) he0.1 he1.1 hne a1 a2
    exact ⟨hm, this.2, (hR.inv_sub hne).1⟩
  have H5 : Hid (∀ wx, Old w4 wx → Calls Try.prog 33 #[gv P Q G H a n cap, .int .u64 e0, .slice b0 n0 c0, .int .u64 e1, .slice b1 n1 c1] wx (Gives wx (invB (subI e0 e1 Q) Q && decide (n0 = n1)) n0 (fun k => exI Q (invI (subI e0 e1 Q) Q) (X k) (Y k)))) := fun wx ho => hLe P Q G H a n cap b0 n0 c0 X b1 n1 c1 Y e0 e1 wx h4 hR he0 he1 hn0 hn1 hc0 hc1 (hX.old ((HW0.out.trans h5).trans ho)) (hY.old ((HW0.out.trans h5).trans ho))
  have H6 : Hid (∀ bz cz wx, Old w4 wx → n0 ≤ cz → FacsIn wx bz n0 (fun k => exI Q (invI (subI e0 e1 Q) Q) (X k) (Y k)) → Calls Try.prog 23 #[gv P Q G H a n cap, cv bt nt ct bb nb cb, .slice bz n0 cz] wx fun e w' => e = .returned (.bool (holdsL P Q nt T nb L B n0 (fun k => exI Q (invI (subI e0 e1 Q) Q) (X k) (Y k)))) ∧ Old wx w') := fun bz cz wx ho q1 f1 => hLh P Q G H a n cap bt nt ct T bb nb cb BA L C B bz n0 cz _ wx h4 hR hfew hn0 q1 (hC.old ((HW0.out.trans h5).trans ho)) f1
  have F3 : Hid (∀ j, U64 ((fun k => exI Q (invI (subI e0 e1 Q) Q) (X k) (Y k)) j)) := fun j => u64_mul _ _ _
  obtain ⟨z00, z01⟩ := (⟨he0.1, he0.2⟩ : 0 ≤ e0 ∧ e0 ≤ 18446744073709551615)
  obtain ⟨z10, z11⟩ := (⟨he1.1, he1.2⟩ : 0 ≤ e1 ∧ e1 ≤ 18446744073709551615)
  clear a1 hIs hsz hok hN4 hf4 hK h4 hR hLs hLh hLe hLc hLf hC hX hY hfew HZ HF HT
  obtain ⟨d0, d1, d2, d3, d4, t0, t1, s0, s1, s2, s3, s4, s5⟩ := HT4.out _ (Old.refl _)
  go_upto_region 10 with (go_at_call 27; refine (H2.out _ (Old.refl _)).mono ?_; rintro e w6 ⟨rfl, h6⟩)
  clear d0 d1 d2 d3 d4 t0 t1 s0 s1 s2 s3 s4 s5 H2
  obtain ⟨d0, d1, d2, d3, d4, t0, t1, s0, s1, s2, s3, s4, s5⟩ := HT4.out _ h6
  have hq5 := HQ.out
  cases hacc : accB P Q nt T nb L B nt K e1 n1 Y
  · rw [hacc] at H3
    clear HEX hacc
    refine wp_region_held_drew (S := (fun w' => w'.cell? ⟨w.heap.size, 0, none⟩ = some (.int .u64 P) ∧ w'.cell? ⟨w.heap.size, 1, none⟩ = some (.int .u64 Q) ∧ w'.cell? ⟨w.heap.size, 2, none⟩ = some (.int .u64 G) ∧ w'.cell? ⟨w.heap.size, 3, none⟩ = some (.int .u64 H) ∧ w'.cell? ⟨w.heap.size, 4, none⟩ = some (.slice a n cap) ∧ w'.cell? ⟨w.heap.size + 1, 0, none⟩ = some (.slice bt nt ct) ∧ w'.cell? ⟨w.heap.size + 1, 1, none⟩ = some (.slice bb nb cb) ∧ w'.cell? ⟨w.heap.size + 1 + 1, 0, none⟩ = some (.int .u64 e0) ∧ w'.cell? ⟨w.heap.size + 1 + 1, 1, none⟩ = some (.slice k0 m0 p0) ∧ w'.cell? ⟨w.heap.size + 1 + 1, 2, none⟩ = some (.slice b0 n0 c0) ∧ w'.cell? ⟨w.heap.size + 1 + 1, 3, none⟩ = some (.int .u64 e1) ∧ w'.cell? ⟨w.heap.size + 1 + 1, 4, none⟩ = some (.slice k1 m1 p1) ∧ w'.cell? ⟨w.heap.size + 1 + 1, 5, none⟩ = some (.slice b1 n1 c1))) (by kernel_rfl) (HT4.out _ h6.drew) (fun hHeld => ?_)
    refine wpAnyH_take (i := 0) (v := ?_) rfl (by kernel_rfl) (by kernel_rfl) (by kernel_rfl) (fun _ _ _ h => h) (Or.inl ⟨by rfl, ?_⟩) (by assumption) ?_
    rotate_left
    · intro wz hSw
      try dsimp only at hSw
      go_simp
      try rfl
    simp only [Act.put, List.getElem_toArray, List.getElem_cons_zero, List.getElem_cons_succ, List.setIfInBounds_toArray, List.set_cons_zero, List.set_cons_succ]
    refine wpAnyH_take (i := 1) (v := ?_) rfl (by kernel_rfl) (by kernel_rfl) (by kernel_rfl) (fun _ _ _ h => h) (Or.inl ⟨by rfl, ?_⟩) (by assumption) ?_
    rotate_left
    · intro wz hSw
      try dsimp only at hSw
      go_simp
      try rfl
    simp only [Act.put, List.getElem_toArray, List.getElem_cons_zero, List.getElem_cons_succ, List.setIfInBounds_toArray, List.set_cons_zero, List.set_cons_succ]
    refine wpAnyH_take (i := 2) (v := ?_) rfl (by kernel_rfl) (by kernel_rfl) (by kernel_rfl) (fun _ _ _ h => h) (Or.inl ⟨by rfl, ?_⟩) (by assumption) ?_
    rotate_left
    · intro wz hSw
      try dsimp only at hSw
      go_simp
      try rfl
    simp only [Act.put, List.getElem_toArray, List.getElem_cons_zero, List.getElem_cons_succ, List.setIfInBounds_toArray, List.set_cons_zero, List.set_cons_succ]
    refine wpAnyH_take (i := 3) (v := ?_) rfl (by kernel_rfl) (by kernel_rfl) (by kernel_rfl) (fun _ _ _ h => h) (Or.inl ⟨by rfl, ?_⟩) (by assumption) ?_
    rotate_left
    · intro wz hSw
      try dsimp only at hSw
      go_simp
      try rfl
    simp only [Act.put, List.getElem_toArray, List.getElem_cons_zero, List.getElem_cons_succ, List.setIfInBounds_toArray, List.set_cons_zero, List.set_cons_succ]
    refine wpAnyH_take (i := 4) (v := ?_) rfl (by kernel_rfl) (by kernel_rfl) (by kernel_rfl) (fun _ _ _ h => h) (Or.inl ⟨by rfl, ?_⟩) (by assumption) ?_
    rotate_left
    · intro wz hSw
      try dsimp only at hSw
      go_simp
      try rfl
    simp only [Act.put, List.getElem_toArray, List.getElem_cons_zero, List.getElem_cons_succ, List.setIfInBounds_toArray, List.set_cons_zero, List.set_cons_succ]
    refine wpAnyH_take (i := 5) (v := ?_) rfl (by kernel_rfl) (by kernel_rfl) (by kernel_rfl) (fun _ _ _ h => h) (Or.inl ⟨by rfl, ?_⟩) (by assumption) ?_
    rotate_left
    · intro wz hSw
      try dsimp only at hSw
      go_simp
      try rfl
    simp only [Act.put, List.getElem_toArray, List.getElem_cons_zero, List.getElem_cons_succ, List.setIfInBounds_toArray, List.set_cons_zero, List.set_cons_succ]
    refine wpAnyH_take (i := 6) (v := ?_) rfl (by kernel_rfl) (by kernel_rfl) (by kernel_rfl) (fun _ _ _ h => h) (Or.inl ⟨by rfl, ?_⟩) (by assumption) ?_
    rotate_left
    · intro wz hSw
      try dsimp only at hSw
      go_simp
      try rfl
    simp only [Act.put, List.getElem_toArray, List.getElem_cons_zero, List.getElem_cons_succ, List.setIfInBounds_toArray, List.set_cons_zero, List.set_cons_succ]
    refine wpAnyH_take (i := 7) (v := ?_) rfl (by kernel_rfl) (by kernel_rfl) (by kernel_rfl) (fun _ _ _ h => h) (Or.inl ⟨by rfl, ?_⟩) (by assumption) ?_
    rotate_left
    · intro wz hSw
      try dsimp only at hSw
      go_simp
      try rfl
    simp only [Act.put, List.getElem_toArray, List.getElem_cons_zero, List.getElem_cons_succ, List.setIfInBounds_toArray, List.set_cons_zero, List.set_cons_succ]
    refine wpAnyH_take (i := 8) (v := ?_) rfl (by kernel_rfl) (by kernel_rfl) (by kernel_rfl) (fun _ _ _ h => h) (Or.inl ⟨by rfl, ?_⟩) (by assumption) ?_
    rotate_left
    · intro wz hSw
      try dsimp only at hSw
      go_simp
      try rfl
    simp only [Act.put, List.getElem_toArray, List.getElem_cons_zero, List.getElem_cons_succ, List.setIfInBounds_toArray, List.set_cons_zero, List.set_cons_succ]
    refine wpAnyH_ready (rs := [9]) (by kernel_rfl) (by simp) ?_
    refine AllReadyH.cons rfl (fun K hK => ?_) AllReadyH.nil
    rw [if_pos (by rfl)]
    go_simp
    refine (H3.out _ h6.drew).mono ?_
    rintro e w7 ⟨rfl, o7⟩
    have h7 : Old w4 w7 := h6.drew.trans o7
    refine hK.out _ _ (HT4.out _ h7) (fun hHeld => ?_)
    clear hK K
    refine wpAnyH_take (i := 10) (v := ?_) rfl (by kernel_rfl) (by kernel_rfl) (by kernel_rfl) (fun _ _ _ h => h) (Or.inl ⟨by rfl, ?_⟩) (by assumption) ?_
    rotate_left
    · intro wz hSw
      try dsimp only at hSw
      go_simp
      try rfl
    simp only [Act.put, List.getElem_toArray, List.getElem_cons_zero, List.getElem_cons_succ, List.setIfInBounds_toArray, List.set_cons_zero, List.set_cons_succ]
    refine wpAnyH_take (i := 11) (v := ?_) rfl (by kernel_rfl) (by kernel_rfl) (by kernel_rfl) (fun _ _ _ h => h) (Or.inl ⟨by rfl, ?_⟩) (by assumption) ?_
    rotate_left
    · intro wz hSw
      try dsimp only at hSw
      go_simp
      try rfl
    simp only [Act.put, List.getElem_toArray, List.getElem_cons_zero, List.getElem_cons_succ, List.setIfInBounds_toArray, List.set_cons_zero, List.set_cons_succ]
    refine wpAnyH_take (i := 12) rfl (by kernel_rfl) (by kernel_rfl) (by kernel_rfl) (fun _ _ _ h => h) (Or.inr ⟨by rfl, rfl⟩) (by assumption) ?_
    simp only [Act.put, List.getElem_toArray, List.getElem_cons_zero, List.getElem_cons_succ, List.setIfInBounds_toArray, List.set_cons_zero, List.set_cons_succ]
    refine wpAnyH_take (i := 13) rfl (by kernel_rfl) (by kernel_rfl) (by kernel_rfl) (fun _ _ _ h => h) (Or.inr ⟨by rfl, rfl⟩) (by assumption) ?_
    simp only [Act.put, List.getElem_toArray, List.getElem_cons_zero, List.getElem_cons_succ, List.setIfInBounds_toArray, List.set_cons_zero, List.set_cons_succ]
    refine wpAnyH_take (i := 14) rfl (by kernel_rfl) (by kernel_rfl) (by kernel_rfl) (fun _ _ _ h => h) (Or.inr ⟨by rfl, rfl⟩) (by assumption) ?_
    simp only [Act.put, List.getElem_toArray, List.getElem_cons_zero, List.getElem_cons_succ, List.setIfInBounds_toArray, List.set_cons_zero, List.set_cons_succ]
    refine wpAnyH_take (i := 15) rfl (by kernel_rfl) (by kernel_rfl) (by kernel_rfl) (fun _ _ _ h => h) (Or.inr ⟨by rfl, rfl⟩) (by assumption) ?_
    simp only [Act.put, List.getElem_toArray, List.getElem_cons_zero, List.getElem_cons_succ, List.setIfInBounds_toArray, List.set_cons_zero, List.set_cons_succ]
    refine wpAnyH_take (i := 16) rfl (by kernel_rfl) (by kernel_rfl) (by kernel_rfl) (fun _ _ _ h => h) (Or.inr ⟨by rfl, rfl⟩) (by assumption) ?_
    simp only [Act.put, List.getElem_toArray, List.getElem_cons_zero, List.getElem_cons_succ, List.setIfInBounds_toArray, List.set_cons_zero, List.set_cons_succ]
    refine wpAnyH_take (i := 17) rfl (by kernel_rfl) (by kernel_rfl) (by kernel_rfl) (fun _ _ _ h => h) (Or.inr ⟨by rfl, rfl⟩) (by assumption) ?_
    simp only [Act.put, List.getElem_toArray, List.getElem_cons_zero, List.getElem_cons_succ, List.setIfInBounds_toArray, List.set_cons_zero, List.set_cons_succ]
    refine wpAnyH_take (i := 18) rfl (by kernel_rfl) (by kernel_rfl) (by kernel_rfl) (fun _ _ _ h => h) (Or.inr ⟨by rfl, rfl⟩) (by assumption) ?_
    simp only [Act.put, List.getElem_toArray, List.getElem_cons_zero, List.getElem_cons_succ, List.setIfInBounds_toArray, List.set_cons_zero, List.set_cons_succ]
    refine wpAnyH_take (i := 19) rfl (by kernel_rfl) (by kernel_rfl) (by kernel_rfl) (fun _ _ _ h => h) (Or.inr ⟨by rfl, rfl⟩) (by assumption) ?_
    simp only [Act.put, List.getElem_toArray, List.getElem_cons_zero, List.getElem_cons_succ, List.setIfInBounds_toArray, List.set_cons_zero, List.set_cons_succ]
    refine wpAnyH_take (i := 20) rfl (by kernel_rfl) (by kernel_rfl) (by kernel_rfl) (fun _ _ _ h => h) (Or.inr ⟨by rfl, rfl⟩) (by assumption) ?_
    simp only [Act.put, List.getElem_toArray, List.getElem_cons_zero, List.getElem_cons_succ, List.setIfInBounds_toArray, List.set_cons_zero, List.set_cons_succ]
    refine wpAnyH_take (i := 21) rfl (by kernel_rfl) (by kernel_rfl) (by kernel_rfl) (fun _ _ _ h => h) (Or.inr ⟨by rfl, rfl⟩) (by assumption) ?_
    simp only [Act.put, List.getElem_toArray, List.getElem_cons_zero, List.getElem_cons_succ, List.setIfInBounds_toArray, List.set_cons_zero, List.set_cons_succ]
    refine wpAnyH_take (i := 22) rfl (by kernel_rfl) (by kernel_rfl) (by kernel_rfl) (fun _ _ _ h => h) (Or.inr ⟨by rfl, rfl⟩) (by assumption) ?_
    simp only [Act.put, List.getElem_toArray, List.getElem_cons_zero, List.getElem_cons_succ, List.setIfInBounds_toArray, List.set_cons_zero, List.set_cons_succ]
    refine wpAnyH_take (i := 23) rfl (by kernel_rfl) (by kernel_rfl) (by kernel_rfl) (fun _ _ _ h => h) (Or.inr ⟨by rfl, rfl⟩) (by assumption) ?_
    simp only [Act.put, List.getElem_toArray, List.getElem_cons_zero, List.getElem_cons_succ, List.setIfInBounds_toArray, List.set_cons_zero, List.set_cons_succ]
    refine wpAnyH_take (i := 24) rfl (by kernel_rfl) (by kernel_rfl) (by kernel_rfl) (fun _ _ _ h => h) (Or.inr ⟨by rfl, rfl⟩) (by assumption) ?_
    simp only [Act.put, List.getElem_toArray, List.getElem_cons_zero, List.getElem_cons_succ, List.setIfInBounds_toArray, List.set_cons_zero, List.set_cons_succ]
    refine wpAnyH_take (i := 25) (v := ?_) rfl (by kernel_rfl) (by kernel_rfl) (by kernel_rfl) (fun _ _ _ h => h) (Or.inl ⟨by rfl, ?_⟩) (by assumption) ?_
    rotate_left
    · intro wz hSw
      try dsimp only at hSw
      go_simp
      try rfl
    simp only [Act.put, List.getElem_toArray, List.getElem_cons_zero, List.getElem_cons_succ, List.setIfInBounds_toArray, List.set_cons_zero, List.set_cons_succ]
    refine wpAnyH_done (by kernel_rfl) ?_ _
    go_wp2_with fail
    go_ret
    exact ⟨rfl, HOw.out _ h7⟩
  have HEX' : Hid (e0 % Q ≠ e1 % Q → n1 = n0 ∧ holdsL P Q nt T nb L B n0 (fun k => exI Q (invI (subI e0 e1 Q) Q) (X k) (Y k)) = true ∧ invB (subI e0 e1 Q) Q = true) := fun hne => HEX.out hne hacc
  rw [hacc] at H3
  clear HEX hacc
  have r0 : ¬ Q = 0 := by omega
  have r1 : (Q == 0) = false := by simp; omega
  have u0 : Int.tmod e0 Q = e0 % Q := Int.tmod_eq_emod_of_nonneg z00
  have u1 : Int.tmod e1 Q = e1 % Q := Int.tmod_eq_emod_of_nonneg z10
  have v0 := Int.emod_nonneg e0 r0
  have v1 := Int.emod_lt_of_pos e0 (show 0 < Q by omega)
  have v2 := Int.emod_nonneg e1 r0
  have v3 := Int.emod_lt_of_pos e1 (show 0 < Q by omega)
  go_region_held3 (fun w' => w'.cell? ⟨w.heap.size, 0, none⟩ = some (.int .u64 P) ∧ w'.cell? ⟨w.heap.size, 1, none⟩ = some (.int .u64 Q) ∧ w'.cell? ⟨w.heap.size, 2, none⟩ = some (.int .u64 G) ∧ w'.cell? ⟨w.heap.size, 3, none⟩ = some (.int .u64 H) ∧ w'.cell? ⟨w.heap.size, 4, none⟩ = some (.slice a n cap) ∧ w'.cell? ⟨w.heap.size + 1, 0, none⟩ = some (.slice bt nt ct) ∧ w'.cell? ⟨w.heap.size + 1, 1, none⟩ = some (.slice bb nb cb) ∧ w'.cell? ⟨w.heap.size + 1 + 1, 0, none⟩ = some (.int .u64 e0) ∧ w'.cell? ⟨w.heap.size + 1 + 1, 1, none⟩ = some (.slice k0 m0 p0) ∧ w'.cell? ⟨w.heap.size + 1 + 1, 2, none⟩ = some (.slice b0 n0 c0) ∧ w'.cell? ⟨w.heap.size + 1 + 1, 3, none⟩ = some (.int .u64 e1) ∧ w'.cell? ⟨w.heap.size + 1 + 1, 4, none⟩ = some (.slice k1 m1 p1) ∧ w'.cell? ⟨w.heap.size + 1 + 1, 5, none⟩ = some (.slice b1 n1 c1)) (first | exact HT4.out _ h7 | exact HT4.out _ h6.drew) ((go_at_call 27; refine (H3.out _ h6.drew).mono ?_; rintro e w7 ⟨rfl, o7⟩; have h7 : Old w4 w7 := h6.drew.trans o7))
  clear d0 d1 d2 d3 d4 t0 t1 s0 s1 s2 s3 s4 s5
  obtain ⟨d0, d1, d2, d3, d4, t0, t1, s0, s1, s2, s3, s4, s5⟩ := HT4.out _ h7
  by_cases heq : e0 % Q = e1 % Q
  · have y1 : (e0 % Q == e1 % Q) = true := by simp [heq]
    clear HEX'
    go_wp2_with fail
    go_ret
    exact ⟨rfl, HOw.out _ h7⟩
  have y1 : (e0 % Q == e1 % Q) = false := by simp [heq]
  obtain ⟨hn, hh, hi⟩ := HEX'.out heq
  subst hn
  rw [hh] at H6
  rw [hi, decide_eq_true rfl] at H5
  clear HEX' hh hi
  obtain ⟨A3, hA3⟩ : ∃ A3 : Nat → Int, A3 = fun k => exI Q (invI (subI e0 e1 Q) Q) (X k) (Y k) := ⟨_, rfl⟩
  rw [← hA3] at H5 H6
  have F3' : Hid (∀ j, U64 (A3 j)) := fun j => by rw [hA3]; exact u64_mul _ _ _
  clear hA3 F3
  have H5' : Hid (Calls Try.prog 33 #[gv P Q G H a n cap, .int .u64 e0, .slice b0 n1 c0, .int .u64 e1, .slice b1 n1 c1] w7 (Gives w7 true n1 A3)) := H5.out _ h7
  clear H5
  go_upto_region 13 with (go_at_call 33; refine H5'.out.mono ?_; rintro e w8 ⟨x8, rfl, hN8, o8⟩)
  simp only [if_true] at hN8
  obtain ⟨b8, c8, rfl, q8, _, hf8⟩ := hN8.facs2 (fun j _ => F3'.out j)
  have h8 : Old w4 w8 := h7.trans o8
  have H6' : Hid (Calls Try.prog 23 #[gv P Q G H a n cap, cv bt nt ct bb nb cb, .slice b8 n1 c8] w8 fun e w' => e = .returned (.bool true) ∧ Old w8 w') := H6.out b8 c8 w8 h8 q8 hf8
  clear d0 d1 d2 d3 d4 t0 t1 s0 s1 s2 s3 s4 s5 hN8 hf8 H6
  obtain ⟨d0, d1, d2, d3, d4, t0, t1, s0, s1, s2, s3, s4, s5⟩ := HT4.out _ h8
  go_wp2_with (go_at_call 23; refine H6'.out.mono ?_; rintro e w9 ⟨rfl, o9⟩)
  go_ret
  exact ⟨rfl, HOw.out _ (h8.trans o9)⟩

end Go.Proofs.Ytmmicbdjafolpae
