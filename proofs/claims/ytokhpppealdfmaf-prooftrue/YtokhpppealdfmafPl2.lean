/-
  The statement's walk (layer 7): ProofTakes.
-/
import Derived.Test.YtokhpppealdfmafPawk2
import Derived.Test.YtokhpppealdfmafK21
namespace Go.Proofs.Ytokhpppealdfmaf
open Go.RowKit

set_option linter.unusedSimpArgs false in
set_option maxRecDepth 100000 in
set_option maxHeartbeats 8000000 in
theorem law_takes (P Q G H : Int) (a : Option Addr) (n cap : Nat) (N A : Nat → Int) (FA : Nat → Option Addr) (RL RC : Nat → Nat) (RF : Nat → Nat → Int) (bt : Option Addr) (nt ct : Nat) (T : Nat → Int) (bb : Option Addr) (nb cb : Nat) (BA : Nat → Option Addr) (L C : Nat → Nat) (B : Nat → Nat → Int) (label : List Int) (bk : Option Addr) (nk ck : Nat) (K : Nat → Int) (bz : Option Addr) (nz cz : Nat) (X : Nat → Int) (w : World) (h4 : Four P Q G H) (_hcap : n ≤ cap) (hin : RowsIn w a n N A FA RL RC RF) (hC : ClaimIn w bt nt ct T bb nb cb BA L C B) (hlb : Bts label) (_hck : nk ≤ ck) (hK : FacsIn w bk nk K) (_hcz : nz ≤ cz) (hX : FacsIn w bz nz X) :
    Calls Try.prog 6 #[gv P Q G H a n cap, cv bt nt ct bb nb cb, .agg #[.string (strOfNums label), .slice bk nk ck, .slice bz nz cz]] w fun e w' => e = .returned (.bool true) ∧ Old w w' := by
  have HZ := lain3 w (gc P Q G H a n cap) (cc bt nt ct bb nb cb) #[.string (strOfNums label), .slice bk nk ck, .slice bz nz cz] 25 34 48
  have HF : Hid (∀ w', Lain w [(gc P Q G H a n cap, 25), (cc bt nt ct bb nb cb, 34), (#[.string (strOfNums label), .slice bk nk ck, .slice bz nz cz], 48)] w' → w'.cell? ⟨w.heap.size, 0, none⟩ = some (.int .u64 P) ∧ w'.cell? ⟨w.heap.size, 1, none⟩ = some (.int .u64 Q) ∧ w'.cell? ⟨w.heap.size, 2, none⟩ = some (.int .u64 G) ∧ w'.cell? ⟨w.heap.size, 3, none⟩ = some (.int .u64 H) ∧ w'.cell? ⟨w.heap.size, 4, none⟩ = some (.slice a n cap) ∧ w'.cell? ⟨w.heap.size + 1, 0, none⟩ = some (.slice bt nt ct) ∧ w'.cell? ⟨w.heap.size + 1, 1, none⟩ = some (.slice bb nb cb) ∧ w'.cell? ⟨w.heap.size + 1 + 1, 0, none⟩ = some (.string (strOfNums label)) ∧ w'.cell? ⟨w.heap.size + 1 + 1, 1, none⟩ = some (.slice bk nk ck) ∧ w'.cell? ⟨w.heap.size + 1 + 1, 2, none⟩ = some (.slice bz nz cz)) := fun _ h => ⟨h.cell 0 0 (by simp) rfl, h.cell 0 1 (by simp) rfl, h.cell 0 2 (by simp) rfl, h.cell 0 3 (by simp) rfl, h.cell 0 4 (by simp) rfl, h.cell 1 0 (by simp) rfl, h.cell 1 1 (by simp) rfl, h.cell 2 0 (by simp) rfl, h.cell 2 1 (by simp) rfl, h.cell 2 2 (by simp) rfl⟩
  have HA : Hid (∀ wx, Calls Try.prog 20 #[] wx fun e w' => e = .returned (.bool true) ∧ Old wx w') := fun wx => awake7_any wx
  have HU : Hid (∀ wx, Old w wx → Calls Try.prog 10 #[gv P Q G H a n cap] wx fun e w' => e = .returned (.bool (fewB RL n && rightI P Q G H N A RF RL n)) ∧ Old wx w') := fun wx ho => group5_any P Q G H a n cap N A FA RL RC RF wx h4 (hin.old ho)
  have HL : Hid (∀ wx t, Old w wx → Calls Try.prog 21 #[cv bt nt ct bb nb cb, .slice (some ⟨wx.heap.size, 0, none⟩) 2 2] (wx.alloc (.cells #[.slice bk nk ck, .slice bz nz cz] t)) fun e w' => e = .returned (.bool (fewC nt nb L 2 (two6 nk nz))) ∧ Old wx w') := fun wx t ho =>
    (few6_any bt nt ct bb nb cb BA L C _ 2 2 _ (two6 nk nz) _ _ (by omega) ((hC.bas.lens.old ho).old ((Old.refl _).alloc _)) (lens_two wx bk nk ck bz nz cz t)).mono fun e w' ⟨h, k⟩ => ⟨h, ((Old.refl _).alloc _).trans k⟩
  have hsz : (strOfNums label).size = label.length := strOfNums_size label
  have ha := hin.a0
  clear hin
  go_enter Try.func6, Try.ntmps6
  go_upto_region 1 with fail
  generalize hW : ((w.alloc (.cells (gc P Q G H a n cap) 25)).alloc (.cells (cc bt nt ct bb nb cb) 34)).alloc (.cells #[.string (strOfNums label), .slice bk nk ck, .slice bz nz cz] 48) = W at *
  clear hW
  have HW0 : Hid (Old w W) := HZ.old
  have HT : Hid (∀ w', Old W w' → w'.cell? ⟨w.heap.size, 0, none⟩ = some (.int .u64 P) ∧ w'.cell? ⟨w.heap.size, 1, none⟩ = some (.int .u64 Q) ∧ w'.cell? ⟨w.heap.size, 2, none⟩ = some (.int .u64 G) ∧ w'.cell? ⟨w.heap.size, 3, none⟩ = some (.int .u64 H) ∧ w'.cell? ⟨w.heap.size, 4, none⟩ = some (.slice a n cap) ∧ w'.cell? ⟨w.heap.size + 1, 0, none⟩ = some (.slice bt nt ct) ∧ w'.cell? ⟨w.heap.size + 1, 1, none⟩ = some (.slice bb nb cb) ∧ w'.cell? ⟨w.heap.size + 1 + 1, 0, none⟩ = some (.string (strOfNums label)) ∧ w'.cell? ⟨w.heap.size + 1 + 1, 1, none⟩ = some (.slice bk nk ck) ∧ w'.cell? ⟨w.heap.size + 1 + 1, 2, none⟩ = some (.slice bz nz cz)) := fun w' ho => HF.out _ (HZ.then ho)
  go_upto_region 3 with (go_at_call 20; refine (HA.out _).mono ?_; rintro e w1 ⟨rfl, h1⟩; obtain ⟨d0, d1, d2, d3, d4, t0, t1, s0, s1, s2⟩ := HT.out _ h1)
  go_region_held3 (fun w' => w'.cell? ⟨w.heap.size + 1 + 1, 0, none⟩ = some (.string (strOfNums label)) ∧ w'.cell? ⟨w.heap.size + 1 + 1, 1, none⟩ = some (.slice bk nk ck) ∧ w'.cell? ⟨w.heap.size + 1 + 1, 2, none⟩ = some (.slice bz nz cz)) (first | (go_keep; done)) (fail)
  have HO2 : Hid (Old W (w1.alloc (.cells #[.slice bk nk ck, .slice bz nz cz] 51)).drew) := (h1.alloc _).drew
  have HP2 : Hid (∀ w', Old (w1.alloc (.cells #[.slice bk nk ck, .slice bz nz cz] 51)).drew w' → w'.cell? ⟨w1.heap.size, 0, none⟩ = some (.slice bk nk ck) ∧ w'.cell? ⟨w1.heap.size, 1, none⟩ = some (.slice bz nz cz)) := fun w' ho => ⟨ho.cellOf ((World.cell?_alloc_mark w1 _ _ (0, 0) 0).trans rfl), ho.cellOf ((World.cell?_alloc_mark w1 _ _ (0, 0) 1).trans rfl)⟩
  clear d0 d1 d2 d3 d4 t0 t1 s0 s1 s2
  generalize (w1.alloc (.cells #[.slice bk nk ck, .slice bz nz cz] 51)).drew = w2 at *
  generalize w1.heap.size = pb at *
  have HT2 : Hid (∀ w', Old w2 w' → w'.cell? ⟨w.heap.size, 0, none⟩ = some (.int .u64 P) ∧ w'.cell? ⟨w.heap.size, 1, none⟩ = some (.int .u64 Q) ∧ w'.cell? ⟨w.heap.size, 2, none⟩ = some (.int .u64 G) ∧ w'.cell? ⟨w.heap.size, 3, none⟩ = some (.int .u64 H) ∧ w'.cell? ⟨w.heap.size, 4, none⟩ = some (.slice a n cap) ∧ w'.cell? ⟨w.heap.size + 1, 0, none⟩ = some (.slice bt nt ct) ∧ w'.cell? ⟨w.heap.size + 1, 1, none⟩ = some (.slice bb nb cb) ∧ w'.cell? ⟨pb, 0, none⟩ = some (.slice bk nk ck) ∧ w'.cell? ⟨pb, 1, none⟩ = some (.slice bz nz cz)) := fun w' ho => by
    obtain ⟨d0, d1, d2, d3, d4, t0, t1, s0, s1, s2⟩ := HT.out _ (HO2.out.trans ho)
    obtain ⟨p0, p1⟩ := HP2.out _ ho
    exact ⟨d0, d1, d2, d3, d4, t0, t1, p0, p1⟩
  have HOw : Hid (∀ w', Old w2 w' → Old w w') := fun w' ho => (HW0.out.trans HO2.out).trans ho
  obtain ⟨d0, d1, d2, d3, d4, t0, t1, p0, p1⟩ := HT2.out _ (Old.refl _)
  cases hg : (fewB RL n && rightI P Q G H N A RF RL n)
  · rw [hg] at HU
    clear hg ha h4 hC hX hK
    go_wp2_with (go_at_call 10; refine (HU.out _ (HOw.out _ (Old.refl _))).mono ?_; rintro e w3 ⟨rfl, o3⟩; obtain ⟨d0, d1, d2, d3, d4, t0, t1, p0, p1⟩ := HT2.out _ o3)
    go_ret
    exact ⟨rfl, HOw.out _ o3⟩
  have hg' := Bool.and_eq_true_iff.1 hg
  have hR := right_righ ha hg'.2
  rw [hg] at HU
  clear hg hg' ha
  by_cases hll : 100 < label.length
  · have k1 : (100 : Int) < (label.length : Int) := by omega
    clear h4 hC hX hK hR
    go_wp2_with (go_at_call 10; refine (HU.out _ (HOw.out _ (Old.refl _))).mono ?_; rintro e w3 ⟨rfl, o3⟩; obtain ⟨d0, d1, d2, d3, d4, t0, t1, p0, p1⟩ := HT2.out _ o3)
    go_ret
    exact ⟨rfl, HOw.out _ o3⟩
  have k1 : ¬ (100 : Int) < (label.length : Int) := by omega
  cases hfw : fewC nt nb L 2 (two6 nk nz)
  · rw [hfw] at HL
    clear hfw h4 hC hX hK hR
    go_wp2_with (first
      | (go_at_call 10; refine (HU.out _ (HOw.out _ (Old.refl _))).mono ?_; rintro e w3 ⟨rfl, o3⟩; obtain ⟨d0, d1, d2, d3, d4, t0, t1, p0, p1⟩ := HT2.out _ o3)
      | (go_at_call 21; refine (HL.out _ _ (HOw.out _ o3)).mono ?_; rintro e w4 ⟨rfl, o4⟩; have q4 : Old w2 w4 := o3.trans o4; obtain ⟨d0, d1, d2, d3, d4, t0, t1, p0, p1⟩ := HT2.out _ q4))
    go_ret
    exact ⟨rfl, HOw.out _ q4⟩
  rw [hfw] at HL
  have hfI := fewC_iff.1 hfw
  have hnk : nk ≤ 80 := hfI.2.2.2 0 (by omega)
  have hnz : nz ≤ 80 := hfI.2.2.2 1 (by omega)
  have hnt : nt ≤ 80 := by have := hfI.1; omega
  have hnb : nb ≤ 80 := by have := hfI.2.1; omega
  have hLL : ∀ j, j < nb → L j ≤ 80 := fun j hj => by have := hfI.2.2.1 j hj; omega
  clear hfw hfI
  have H1 : Hid (∀ wx, Old w wx → Calls Try.prog 26 #[gv P Q G H a n cap, .string (strOfNums label), cv bt nt ct bb nb cb, cv bk nk ck bz nz cz] wx fun e w' => e = .returned (.bool (accB P Q nt T nb L B nk K (chI label P Q G H nt T nb L B nk K) nz X)) ∧ Old wx w') := fun wx ho => paccept7_any label P Q G H a n cap bt nt ct T bb nb cb BA L C B bk nk ck K bz nz cz X wx h4 hR hlb (by omega) hnt hnb hLL hnk (hC.old ho) (hK.old ho) (hX.old ho)
  have H2 : Hid (∀ wx, Old w wx → Calls Try.prog 27 #[gv P Q G H a n cap, .string (strOfNums label), cv bt nt ct bb nb cb, cv bk nk ck bz nz cz] wx fun e w' => e = .returned (.bool (accB P Q nt T nb L B nk K (chI label P Q G H nt T nb L B nk K) nz X)) ∧ Old wx w') := fun wx ho => raccept7_any label P Q G H a n cap bt nt ct T bb nb cb BA L C B bk nk ck K bz nz cz X wx h4 hlb (by omega) hnt hnb hLL hnk (hC.old ho) (hK.old ho) (hX.old ho)
  clear h4 hC hX hK hR hLL hlb
  generalize accB P Q nt T nb L B nk K (chI label P Q G H nt T nb L B nk K) nz X = acc at *
  go_upto_region 6 with (first
    | (go_at_call 10; refine (HU.out _ (HOw.out _ (Old.refl _))).mono ?_; rintro e w3 ⟨rfl, o3⟩; obtain ⟨d0, d1, d2, d3, d4, t0, t1, p0, p1⟩ := HT2.out _ o3)
    | (go_at_call 21; refine (HL.out _ _ (HOw.out _ o3)).mono ?_; rintro e w4 ⟨rfl, o4⟩; have q4 : Old w2 w4 := o3.trans o4; obtain ⟨d0, d1, d2, d3, d4, t0, t1, p0, p1⟩ := HT2.out _ q4))
  have hd : Old w2 w4.drew := q4.drew
  go_region_held3 (fun w' => w'.cell? ⟨w.heap.size, 0, none⟩ = some (.int .u64 P) ∧ w'.cell? ⟨w.heap.size, 1, none⟩ = some (.int .u64 Q) ∧ w'.cell? ⟨w.heap.size, 2, none⟩ = some (.int .u64 G) ∧ w'.cell? ⟨w.heap.size, 3, none⟩ = some (.int .u64 H) ∧ w'.cell? ⟨w.heap.size, 4, none⟩ = some (.slice a n cap) ∧ w'.cell? ⟨w.heap.size + 1, 0, none⟩ = some (.slice bt nt ct) ∧ w'.cell? ⟨w.heap.size + 1, 1, none⟩ = some (.slice bb nb cb) ∧ w'.cell? ⟨pb, 0, none⟩ = some (.slice bk nk ck) ∧ w'.cell? ⟨pb, 1, none⟩ = some (.slice bz nz cz)) (first | exact HT2.out _ h6 | exact HT2.out _ h5 | exact HT2.out _ hd) (first
    | (go_at_call 26; refine (H1.out _ (HOw.out _ hd)).mono ?_; rintro e w5 ⟨rfl, o5⟩; have h5 : Old w2 w5 := hd.trans o5)
    | (go_at_call 27; refine (H2.out _ (HOw.out _ h5)).mono ?_; rintro e w6 ⟨rfl, o6⟩; have h6 : Old w2 w6 := h5.trans o6))
  go_wp2_with fail
  go_ret
  exact ⟨by simp, HOw.out _ h6⟩

end Go.Proofs.Ytokhpppealdfmaf
