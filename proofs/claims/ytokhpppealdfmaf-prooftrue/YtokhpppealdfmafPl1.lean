/-
  The statement's walk (layer 7): ProofMakes.
-/
import Derived.Test.YtokhpppealdfmafPl2
namespace Go.Proofs.Ytokhpppealdfmaf
open Go.RowKit

/-- What is proved of a claim that holds is accepted. -/
theorem made_acc {P Q G ch : Int} (h : Righ P Q G) {nt : Nat} {T : Nat → Int} {nb : Nat} {L : Nat → Nat} {B : Nat → Nat → Int} {nw nd : Nat} {X Y : Nat → Int} (hok : provB (sizeN P Q nt T nb L B) nw nd = true) (hh : holdsL P Q nt T nb L B nw X = true) (hX : ∀ k, k < nw → 0 ≤ X k) (hY : ∀ k, k < nd → 0 ≤ Y k) (he : 0 ≤ ch) :
    accB P Q nt T nb L B nt (fun j => imI P Q (B j) Y (sizeN P Q nt T nb L B)) ch nw (fun k => ansI Q ch (X k) (Y k)) = true := by
  unfold provB at hok
  obtain ⟨h1, h2⟩ := Bool.and_eq_true_iff.1 hok
  have h2 := of_decide_eq_true h2
  subst h2
  have hc := sizeN_claim (fitsB_iff.1 h1).1
  have hn := (fitsB_iff.1 h1).2
  unfold holdsL at hh
  obtain ⟨_, h3⟩ := Bool.and_eq_true_iff.1 hh
  have h4 := (sameB_iff.1 h3).2
  refine accB_iff.2 ⟨h1, rfl, fun j hj => ⟨h.im_in _ (hc.bin j hj), ?_⟩⟩
  rw [← h4 j hj]
  exact h.im_ans _ (hc.bin j hj) (fun k hk => hX k (by omega)) (fun k hk => hY k (by omega)) he

set_option linter.unusedSimpArgs false in
set_option maxRecDepth 100000 in
set_option maxHeartbeats 8000000 in
theorem law_makes (P Q G H : Int) (a : Option Addr) (n cap : Nat) (N A : Nat → Int) (FA : Nat → Option Addr) (RL RC : Nat → Nat) (RF : Nat → Nat → Int) (bt : Option Addr) (nt ct : Nat) (T : Nat → Int) (bb : Option Addr) (nb cb : Nat) (BA : Nat → Option Addr) (L C : Nat → Nat) (B : Nat → Nat → Int) (label : List Int) (bk : Option Addr) (nk ck : Nat) (K : Nat → Int) (bz : Option Addr) (nz cz : Nat) (X : Nat → Int) (w : World) (h4 : Four P Q G H) (_hcap : n ≤ cap) (hin : RowsIn w a n N A FA RL RC RF) (hC : ClaimIn w bt nt ct T bb nb cb BA L C B) (hlb : Bts label) (hck : nk ≤ ck) (hK : FacsIn w bk nk K) (hcz : nz ≤ cz) (hX : FacsIn w bz nz X) :
    Calls Try.prog 5 #[gv P Q G H a n cap, cv bt nt ct bb nb cb, .agg #[.string (strOfNums label), .slice bk nk ck, .slice bz nz cz]] w fun e w' => e = .returned (.bool true) ∧ Old w w' := by
  have HZ := lain3 w (gc P Q G H a n cap) (cc bt nt ct bb nb cb) #[.string (strOfNums label), .slice bk nk ck, .slice bz nz cz] 25 34 48
  have HF : Hid (∀ w', Lain w [(gc P Q G H a n cap, 25), (cc bt nt ct bb nb cb, 34), (#[.string (strOfNums label), .slice bk nk ck, .slice bz nz cz], 48)] w' → w'.cell? ⟨w.heap.size, 0, none⟩ = some (.int .u64 P) ∧ w'.cell? ⟨w.heap.size, 1, none⟩ = some (.int .u64 Q) ∧ w'.cell? ⟨w.heap.size, 2, none⟩ = some (.int .u64 G) ∧ w'.cell? ⟨w.heap.size, 3, none⟩ = some (.int .u64 H) ∧ w'.cell? ⟨w.heap.size, 4, none⟩ = some (.slice a n cap) ∧ w'.cell? ⟨w.heap.size + 1, 0, none⟩ = some (.slice bt nt ct) ∧ w'.cell? ⟨w.heap.size + 1, 1, none⟩ = some (.slice bb nb cb) ∧ w'.cell? ⟨w.heap.size + 1 + 1, 0, none⟩ = some (.string (strOfNums label)) ∧ w'.cell? ⟨w.heap.size + 1 + 1, 1, none⟩ = some (.slice bk nk ck) ∧ w'.cell? ⟨w.heap.size + 1 + 1, 2, none⟩ = some (.slice bz nz cz)) := fun _ h => ⟨h.cell 0 0 (by simp) rfl, h.cell 0 1 (by simp) rfl, h.cell 0 2 (by simp) rfl, h.cell 0 3 (by simp) rfl, h.cell 0 4 (by simp) rfl, h.cell 1 0 (by simp) rfl, h.cell 1 1 (by simp) rfl, h.cell 2 0 (by simp) rfl, h.cell 2 1 (by simp) rfl, h.cell 2 2 (by simp) rfl⟩
  have HA : Hid (∀ wx, Calls Try.prog 20 #[] wx fun e w' => e = .returned (.bool true) ∧ Old wx w') := fun wx => awake7_any wx
  have HU : Hid (∀ wx, Old w wx → Calls Try.prog 10 #[gv P Q G H a n cap] wx fun e w' => e = .returned (.bool (fewB RL n && rightI P Q G H N A RF RL n)) ∧ Old wx w') := fun wx ho => group5_any P Q G H a n cap N A FA RL RC RF wx h4 (hin.old ho)
  have HL : Hid (∀ wx t, Old w wx → Calls Try.prog 21 #[cv bt nt ct bb nb cb, .slice (some ⟨wx.heap.size, 0, none⟩) 2 2] (wx.alloc (.cells #[.slice bk nk ck, .slice bz nz cz] t)) fun e w' => e = .returned (.bool (fewC nt nb L 2 (two6 nk nz))) ∧ Old wx w') := fun wx t ho =>
    (few6_any bt nt ct bb nb cb BA L C _ 2 2 _ (two6 nk nz) _ _ (by omega) ((hC.bas.lens.old ho).old ((Old.refl _).alloc _)) (lens_two wx bk nk ck bz nz cz t)).mono fun e w' ⟨h, k⟩ => ⟨h, ((Old.refl _).alloc _).trans k⟩
  have hsz : (strOfNums label).size = label.length := strOfNums_size label
  have ha := hin.a0
  clear hin
  go_enter Try.func5, Try.ntmps5
  go_upto_region 1 with fail
  generalize hW : ((w.alloc (.cells (gc P Q G H a n cap) 25)).alloc (.cells (cc bt nt ct bb nb cb) 34)).alloc (.cells #[.string (strOfNums label), .slice bk nk ck, .slice bz nz cz] 48) = W at *
  clear hW
  have HW0 : Hid (Old w W) := HZ.old
  have HT : Hid (∀ w', Old W w' → w'.cell? ⟨w.heap.size, 0, none⟩ = some (.int .u64 P) ∧ w'.cell? ⟨w.heap.size, 1, none⟩ = some (.int .u64 Q) ∧ w'.cell? ⟨w.heap.size, 2, none⟩ = some (.int .u64 G) ∧ w'.cell? ⟨w.heap.size, 3, none⟩ = some (.int .u64 H) ∧ w'.cell? ⟨w.heap.size, 4, none⟩ = some (.slice a n cap) ∧ w'.cell? ⟨w.heap.size + 1, 0, none⟩ = some (.slice bt nt ct) ∧ w'.cell? ⟨w.heap.size + 1, 1, none⟩ = some (.slice bb nb cb) ∧ w'.cell? ⟨w.heap.size + 1 + 1, 0, none⟩ = some (.string (strOfNums label)) ∧ w'.cell? ⟨w.heap.size + 1 + 1, 1, none⟩ = some (.slice bk nk ck) ∧ w'.cell? ⟨w.heap.size + 1 + 1, 2, none⟩ = some (.slice bz nz cz)) := fun w' ho => HF.out _ (HZ.then ho)
  go_upto_region 3 with (go_at_call 20; refine (HA.out _).mono ?_; rintro e w1 ⟨rfl, h1⟩; obtain ⟨d0, d1, d2, d3, d4, t0, t1, s0, s1, s2⟩ := HT.out _ h1)
  have HO1 : Hid (Old W w1) := h1
  have HOw : Hid (∀ w', Old w1 w' → Old w w') := fun w' ho => (HW0.out.trans HO1.out).trans ho
  have HT2 : Hid (∀ w', Old w1 w' → w'.cell? ⟨w.heap.size, 0, none⟩ = some (.int .u64 P) ∧ w'.cell? ⟨w.heap.size, 1, none⟩ = some (.int .u64 Q) ∧ w'.cell? ⟨w.heap.size, 2, none⟩ = some (.int .u64 G) ∧ w'.cell? ⟨w.heap.size, 3, none⟩ = some (.int .u64 H) ∧ w'.cell? ⟨w.heap.size, 4, none⟩ = some (.slice a n cap) ∧ w'.cell? ⟨w.heap.size + 1, 0, none⟩ = some (.slice bt nt ct) ∧ w'.cell? ⟨w.heap.size + 1, 1, none⟩ = some (.slice bb nb cb) ∧ w'.cell? ⟨w.heap.size + 1 + 1, 0, none⟩ = some (.string (strOfNums label)) ∧ w'.cell? ⟨w.heap.size + 1 + 1, 1, none⟩ = some (.slice bk nk ck) ∧ w'.cell? ⟨w.heap.size + 1 + 1, 2, none⟩ = some (.slice bz nz cz)) := fun w' ho => HT.out _ (HO1.out.trans ho)
  cases hg : (fewB RL n && rightI P Q G H N A RF RL n)
  · rw [hg] at HU
    clear hg ha h4 hC hX hK
    go_wp2_with (go_at_call 10; refine (HU.out _ (HOw.out _ (Old.refl _))).mono ?_; rintro e w3 ⟨rfl, o3⟩; obtain ⟨d0, d1, d2, d3, d4, t0, t1, s0, s1, s2⟩ := HT2.out _ o3)
    go_ret
    exact ⟨rfl, HOw.out _ o3⟩
  have hg' := Bool.and_eq_true_iff.1 hg
  have hR := right_righ ha hg'.2
  rw [hg] at HU
  clear hg hg' ha
  by_cases hll : 100 < label.length
  · have k1 : (100 : Int) < (label.length : Int) := by omega
    clear h4 hC hX hK hR
    go_wp2_with (go_at_call 10; refine (HU.out _ (HOw.out _ (Old.refl _))).mono ?_; rintro e w3 ⟨rfl, o3⟩; obtain ⟨d0, d1, d2, d3, d4, t0, t1, s0, s1, s2⟩ := HT2.out _ o3)
    go_ret
    exact ⟨rfl, HOw.out _ o3⟩
  have k1 : ¬ (100 : Int) < (label.length : Int) := by omega
  cases hfw : fewC nt nb L 2 (two6 nk nz)
  · rw [hfw] at HL
    clear hfw h4 hC hX hK hR
    go_wp2_with (first
      | (go_at_call 10; refine (HU.out _ (HOw.out _ (Old.refl _))).mono ?_; rintro e w3 ⟨rfl, o3⟩; obtain ⟨d0, d1, d2, d3, d4, t0, t1, s0, s1, s2⟩ := HT2.out _ o3)
      | (go_at_call 21; refine (HL.out _ _ (HOw.out _ o3)).mono ?_; rintro e w4 ⟨rfl, o4⟩; have q4 : Old w1 w4 := o3.trans o4; obtain ⟨d0, d1, d2, d3, d4, t0, t1, s0, s1, s2⟩ := HT2.out _ q4))
    go_ret
    exact ⟨rfl, HOw.out _ q4⟩
  rw [hfw] at HL
  have hfI := fewC_iff.1 hfw
  have hnk : nk ≤ 80 := hfI.2.2.2 0 (by omega)
  have hnz : nz ≤ 80 := hfI.2.2.2 1 (by omega)
  have hnt : nt ≤ 80 := by have := hfI.1; omega
  have hnb : nb ≤ 80 := by have := hfI.2.1; omega
  have hLL : ∀ j, j < nb → L j ≤ 80 := fun j hj => by have := hfI.2.2.1 j hj; omega
  clear hfw hfI
  obtain ⟨F, hF⟩ : ∃ F : Nat → Int, F = fun j => imI P Q (B j) X (sizeN P Q nt T nb L B) := ⟨_, rfl⟩
  obtain ⟨ch, hch⟩ : ∃ ch : Int, ch = chI label P Q G H nt T nb L B nt F := ⟨_, rfl⟩
  obtain ⟨Z, hZ⟩ : ∃ Z : Nat → Int, Z = fun k => ansI Q ch (K k) (X k) := ⟨_, rfl⟩
  have hFU : ∀ j, U64 (F j) := fun j => by rw [hF]; exact u64_prod _ _ _
  have hZU : ∀ j, U64 (Z j) := fun j => by rw [hZ]; exact u64_ans _ _ _ _
  have hcu : U64 ch := by rw [hch]; exact ch_u64 _ _ _ _ _ _ _ _ _ _ _ _
  have H1 : Hid (∀ wx, Old w wx → Calls Try.prog 22 #[gv P Q G H a n cap, .string (strOfNums label), cv bt nt ct bb nb cb, .slice bk nk ck, .slice bz nz cz] wx (GivesP wx (provB (sizeN P Q nt T nb L B) nk nz) nt F nk Z)) := fun wx ho => by
    have := pprove_any label P Q G H a n cap bt nt ct T bb nb cb BA L C B bk nk ck K bz nz cz X F hF wx h4 hR hlb (by omega) hnt hnb hLL hnk hnz hck hcz (hC.old ho) (hK.old ho) (hX.old ho)
    rwa [← hch, ← hZ] at this
  have H2 : Hid (∀ wx, Old w wx → Calls Try.prog 23 #[gv P Q G H a n cap, .string (strOfNums label), cv bt nt ct bb nb cb, .slice bk nk ck, .slice bz nz cz] wx (GivesP wx (provB (sizeN P Q nt T nb L B) nk nz) nt F nk Z)) := fun wx ho => by
    have := rprove_any label P Q G H a n cap bt nt ct T bb nb cb BA L C B bk nk ck K bz nz cz X F hF wx h4 hlb (by omega) hnt hnb hLL hnk (hC.old ho) (hK.old ho) (hX.old ho)
    rwa [← hch, ← hZ] at this
  have H3 : Hid (∀ wx, Old w wx → Calls Try.prog 25 #[gv P Q G H a n cap, cv bt nt ct bb nb cb, .slice bk nk ck] wx fun e w' => e = .returned (.bool (holdsL P Q nt T nb L B nk K)) ∧ Old wx w') := fun wx ho => rlholds_any P Q G H a n cap bt nt ct T bb nb cb BA L C B bk nk ck K wx h4 (hC.old ho) (hK.old ho)
  have H4 : Hid (provB (sizeN P Q nt T nb L B) nk nz = true → holdsL P Q nt T nb L B nk K = true → ∀ b5 c5 b6 c6 wx, Old w wx → FacsIn wx b5 nt F → FacsIn wx b6 nk Z → Calls Try.prog 26 #[gv P Q G H a n cap, .string (strOfNums label), cv bt nt ct bb nb cb, cv b5 nt c5 b6 nk c6] wx fun e w' => e = .returned (.bool true) ∧ Old wx w') := fun hp hh b5 c5 b6 c6 wx ho hf5 hf6 => by
    have h := paccept7_any label P Q G H a n cap bt nt ct T bb nb cb BA L C B b5 nt c5 F b6 nk c6 Z wx h4 hR hlb (by omega) hnt hnb hLL hnt (hC.old ho) hf5 hf6
    have e : accB P Q nt T nb L B nt F ch nk Z = true := by rw [hF, hZ]; exact made_acc hR hp hh (fun k hk => (hK.u64 k hk).1) (fun k hk => (hX.u64 k hk).1) hcu.1
    rwa [← hch, e] at h
  have HFU : Hid (∀ j, U64 (F j)) := hFU
  have HZU : Hid (∀ j, U64 (Z j)) := hZU
  clear h4 hC hX hK hR hLL hlb hF hch hZ hFU hZU hcu
  generalize provB (sizeN P Q nt T nb L B) nk nz = ok at *
  generalize holdsL P Q nt T nb L B nk K = hol at *
  have hkt : (if ok = true then nt else 0) ≤ 80 := by split <;> omega
  have hkk : (if ok = true then nk else 0) ≤ 80 := by split <;> omega
  go_upto_region 6 with (first
    | (go_at_call 10; refine (HU.out _ (HOw.out _ (Old.refl _))).mono ?_; rintro e w3 ⟨rfl, o3⟩; obtain ⟨d0, d1, d2, d3, d4, t0, t1, s0, s1, s2⟩ := HT2.out _ o3)
    | (go_at_call 21; refine (HL.out _ _ (HOw.out _ o3)).mono ?_; rintro e w4 ⟨rfl, o4⟩; have q4 : Old w1 w4 := o3.trans o4; obtain ⟨d0, d1, d2, d3, d4, t0, t1, s0, s1, s2⟩ := HT2.out _ q4))
  go_upto_region 7 with (go_at_call 22; refine (H1.out _ (HOw.out _ q4)).mono ?_; rintro e w5 ⟨o5, x5, y5, rfl, N5, M5⟩; obtain ⟨b5, c5, rfl, _, _, f5⟩ := N5.facs2 (fun j _ => HFU.out j); obtain ⟨b6, c6, rfl, _, _, f6⟩ := M5.facs2 (fun j _ => HZU.out j))
  generalize hk1 : (if ok = true then nt else 0) = kt at *
  generalize hk2 : (if ok = true then nk else 0) = kk at *
  have HK1 : Hid ((if ok = true then nt else 0) = kt) := hk1
  have HK2 : Hid ((if ok = true then nk else 0) = kk) := hk2
  clear hk1 hk2 N5 M5 d0 d1 d2 d3 d4 t0 t1 s0 s1 s2
  have HF5 : Hid (FacsIn w5 b5 kt F) := f5
  have HF6 : Hid (FacsIn w5 b6 kk Z) := f6
  have HO6 : Hid (Old w1 (w5.alloc (.cells #[.slice b5 kt c5, .slice b6 kk c6] 51))) := (q4.trans o5).alloc _
  have HO5 : Hid (Old w5 (w5.alloc (.cells #[.slice b5 kt c5, .slice b6 kk c6] 51))) := (Old.refl _).alloc _
  have HP6 : Hid (∀ w', Old (w5.alloc (.cells #[.slice b5 kt c5, .slice b6 kk c6] 51)) w' → w'.cell? ⟨w5.heap.size, 0, none⟩ = some (.slice b5 kt c5) ∧ w'.cell? ⟨w5.heap.size, 1, none⟩ = some (.slice b6 kk c6)) := fun w' ho => ⟨ho.cellOf ((World.cell?_alloc_mark w5 _ _ (0, 0) 0).trans rfl), ho.cellOf ((World.cell?_alloc_mark w5 _ _ (0, 0) 1).trans rfl)⟩
  clear f5 f6 o5 q4 o4 o3
  generalize w5.alloc (.cells #[.slice b5 kt c5, .slice b6 kk c6] 51) = w6 at *
  generalize w5.heap.size = pb at *
  obtain ⟨d0, d1, d2, d3, d4, t0, t1, s0, s1, s2⟩ := HT2.out _ HO6.out
  go_upto_region 8 with (go_at_call 23; refine (H2.out _ (HOw.out _ HO6.out)).mono ?_; rintro e w7 ⟨o7, x7, y7, rfl, N7, M7⟩; obtain ⟨b7, c7, rfl, _, _, f7⟩ := N7.facs2 (fun j _ => HFU.out j); obtain ⟨b8, c8, rfl, _, _, f8⟩ := M7.facs2 (fun j _ => HZU.out j); simp only [HK1.out, HK2.out] at f7 f8 ⊢)
  clear N7 M7 d0 d1 d2 d3 d4 t0 t1 s0 s1 s2
  have HF7 : Hid (FacsIn w7 b7 kt F) := f7
  have HF8 : Hid (FacsIn w7 b8 kk Z) := f8
  have HO7 : Hid (Old w6 w7) := o7
  have HO8 : Hid (Old w7 (w7.alloc (.cells #[.slice b7 kt c7, .slice b8 kk c8] 51))) := (Old.refl _).alloc _
  have HP8 : Hid (∀ w', Old (w7.alloc (.cells #[.slice b7 kt c7, .slice b8 kk c8] 51)) w' → w'.cell? ⟨w7.heap.size, 0, none⟩ = some (.slice b7 kt c7) ∧ w'.cell? ⟨w7.heap.size, 1, none⟩ = some (.slice b8 kk c8)) := fun w' ho => ⟨ho.cellOf ((World.cell?_alloc_mark w7 _ _ (0, 0) 0).trans rfl), ho.cellOf ((World.cell?_alloc_mark w7 _ _ (0, 0) 1).trans rfl)⟩
  clear f7 f8 o7
  generalize w7.alloc (.cells #[.slice b7 kt c7, .slice b8 kk c8] 51) = w8 at *
  generalize w7.heap.size = qb at *
  have HT8 : Hid (∀ w', Old w8 w' → (w'.cell? ⟨w.heap.size, 0, none⟩ = some (.int .u64 P) ∧ w'.cell? ⟨w.heap.size, 1, none⟩ = some (.int .u64 Q) ∧ w'.cell? ⟨w.heap.size, 2, none⟩ = some (.int .u64 G) ∧ w'.cell? ⟨w.heap.size, 3, none⟩ = some (.int .u64 H) ∧ w'.cell? ⟨w.heap.size, 4, none⟩ = some (.slice a n cap) ∧ w'.cell? ⟨w.heap.size + 1, 0, none⟩ = some (.slice bt nt ct) ∧ w'.cell? ⟨w.heap.size + 1, 1, none⟩ = some (.slice bb nb cb) ∧ w'.cell? ⟨w.heap.size + 1 + 1, 0, none⟩ = some (.string (strOfNums label)) ∧ w'.cell? ⟨w.heap.size + 1 + 1, 1, none⟩ = some (.slice bk nk ck) ∧ w'.cell? ⟨w.heap.size + 1 + 1, 2, none⟩ = some (.slice bz nz cz)) ∧ (w'.cell? ⟨pb, 0, none⟩ = some (.slice b5 kt c5) ∧ w'.cell? ⟨pb, 1, none⟩ = some (.slice b6 kk c6)) ∧ w'.cell? ⟨qb, 0, none⟩ = some (.slice b7 kt c7) ∧ w'.cell? ⟨qb, 1, none⟩ = some (.slice b8 kk c8)) := fun w' ho => ⟨HT2.out _ (HO6.out.trans ((HO7.out.trans HO8.out).trans ho)), HP6.out _ ((HO7.out.trans HO8.out).trans ho), HP8.out _ ho⟩
  have HOz : Hid (∀ w', Old w8 w' → Old w w') := fun w' ho => HOw.out _ (HO6.out.trans ((HO7.out.trans HO8.out).trans ho))
  have HSm : Hid (∀ wx, Old w8 wx → Calls Try.prog 24 #[cv b5 kt c5 b6 kk c6, cv b7 kt c7 b8 kk c8] wx fun e w' => e = .returned (.bool true) ∧ Old wx w') := fun wx ho =>
    (rsame7_any b5 kt c5 F b6 kk c6 Z b7 kt c7 F b8 kk c8 Z wx (by omega) (by omega) (HF5.out.old (((HO5.out.trans HO7.out).trans HO8.out).trans ho)) (HF6.out.old (((HO5.out.trans HO7.out).trans HO8.out).trans ho)) (HF7.out.old (HO8.out.trans ho)) (HF8.out.old (HO8.out.trans ho))).mono fun e w' ⟨h, k⟩ => ⟨by rw [h, same_self, same_self]; rfl, k⟩
  obtain ⟨⟨d0, d1, d2, d3, d4, t0, t1, s0, s1, s2⟩, ⟨p0, p1⟩, r0, r1⟩ := HT8.out _ (Old.refl _)
  cases ok with
  | false =>
    clear H1 H2 H3 H4 HU HL HA
    go_wp2_with (go_at_call 24; refine (HSm.out _ (Old.refl _)).mono ?_; rintro e w9 ⟨rfl, o9⟩; obtain ⟨⟨d0, d1, d2, d3, d4, t0, t1, s0, s1, s2⟩, ⟨p0, p1⟩, r0, r1⟩ := HT8.out _ o9)
    go_ret
    exact ⟨rfl, HOz.out _ o9⟩
  | true =>
    obtain rfl : nt = kt := by have := HK1.out; simpa using this
    obtain rfl : nk = kk := by have := HK2.out; simpa using this
    cases hol with
    | false =>
      clear H1 H2 H4 HU HL HA
      go_wp2_with (first
        | (go_at_call 24; refine (HSm.out _ (Old.refl _)).mono ?_; rintro e w9 ⟨rfl, o9⟩; obtain ⟨⟨d0, d1, d2, d3, d4, t0, t1, s0, s1, s2⟩, ⟨p0, p1⟩, r0, r1⟩ := HT8.out _ o9)
        | (go_at_call 25; refine (H3.out _ (HOz.out _ o9)).mono ?_; rintro e wa ⟨rfl, oa⟩; have ha : Old w8 wa := o9.trans oa; obtain ⟨⟨d0, d1, d2, d3, d4, t0, t1, s0, s1, s2⟩, ⟨p0, p1⟩, r0, r1⟩ := HT8.out _ ha))
      go_ret
      exact ⟨rfl, HOz.out _ ha⟩
    | true =>
      have H5 : Hid (∀ wx, Old w8 wx → Calls Try.prog 26 #[gv P Q G H a n cap, .string (strOfNums label), cv bt nt ct bb nb cb, cv b5 nt c5 b6 nk c6] wx fun e w' => e = .returned (.bool true) ∧ Old wx w') := fun wx ho => H4.out rfl rfl b5 c5 b6 c6 wx (HOz.out _ ho) (HF5.out.old (((HO5.out.trans HO7.out).trans HO8.out).trans ho)) (HF6.out.old (((HO5.out.trans HO7.out).trans HO8.out).trans ho))
      clear H1 H2 H4 HU HL HA
      go_wp2_with (first
        | (go_at_call 24; refine (HSm.out _ (Old.refl _)).mono ?_; rintro e w9 ⟨rfl, o9⟩; obtain ⟨⟨d0, d1, d2, d3, d4, t0, t1, s0, s1, s2⟩, ⟨p0, p1⟩, r0, r1⟩ := HT8.out _ o9)
        | (go_at_call 25; refine (H3.out _ (HOz.out _ o9)).mono ?_; rintro e wa ⟨rfl, oa⟩; have ha : Old w8 wa := o9.trans oa; obtain ⟨⟨d0, d1, d2, d3, d4, t0, t1, s0, s1, s2⟩, ⟨p0, p1⟩, r0, r1⟩ := HT8.out _ ha)
        | (go_at_call 26; refine (H5.out _ ha).mono ?_; rintro e wb ⟨rfl, ob⟩))
      go_ret
      exact ⟨rfl, HOz.out _ (ha.trans ob)⟩

end Go.Proofs.Ytokhpppealdfmaf
