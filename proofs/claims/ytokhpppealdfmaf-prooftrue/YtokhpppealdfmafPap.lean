/-
  The program's Accept (layer 7).
-/
import Derived.Test.YtokhpppealdfmafPacc
import Derived.Test.YtokhpppealdfmafPch
import Derived.Test.YtokhpppealdfmafK21
import Derived.Test.YtokhpppealdfmafK19
namespace Go.Proofs.Ytokhpppealdfmaf
open Go.RowKit

set_option linter.unusedSimpArgs false in
set_option maxRecDepth 100000 in
set_option maxHeartbeats 8000000 in
theorem paccept7_any (label : List Int) (P Q G H : Int) (a : Option Addr) (n cap : Nat) (bt : Option Addr) (nt ct : Nat) (T : Nat → Int) (bb : Option Addr) (nb cb : Nat) (BA : Nat → Option Addr) (L C : Nat → Nat) (B : Nat → Nat → Int) (bk : Option Addr) (nk ck : Nat) (K : Nat → Int) (bz : Option Addr) (nz cz : Nat) (X : Nat → Int) (w : World) (h4 : Four P Q G H) (hr : Righ P Q G) (hlb : Bts label) (hll : label.length ≤ 1000) (mt : nt ≤ 80) (mb : nb ≤ 80) (mL : ∀ j, j < nb → L j ≤ 80) (mk : nk ≤ 80) (hC : ClaimIn w bt nt ct T bb nb cb BA L C B) (hK : FacsIn w bk nk K) (hX : FacsIn w bz nz X) :
    Calls Try.prog 26 #[gv P Q G H a n cap, .string (strOfNums label), cv bt nt ct bb nb cb, cv bk nk ck bz nz cz] w fun e w' => e = .returned (.bool (accB P Q nt T nb L B nk K (chI label P Q G H nt T nb L B nk K) nz X)) ∧ Old w w' := by
  have HZ := lain3 w (gc P Q G H a n cap) (cc bt nt ct bb nb cb) (cc bk nk ck bz nz cz) 25 34 51
  have HT : Hid (∀ w', Old (((w.alloc (.cells (gc P Q G H a n cap) 25)).alloc (.cells (cc bt nt ct bb nb cb) 34)).alloc (.cells (cc bk nk ck bz nz cz) 51)) w' → w'.cell? ⟨w.heap.size, 0, none⟩ = some (.int .u64 P) ∧ w'.cell? ⟨w.heap.size, 1, none⟩ = some (.int .u64 Q) ∧ w'.cell? ⟨w.heap.size, 2, none⟩ = some (.int .u64 G) ∧ w'.cell? ⟨w.heap.size, 3, none⟩ = some (.int .u64 H) ∧ w'.cell? ⟨w.heap.size, 4, none⟩ = some (.slice a n cap) ∧ w'.cell? ⟨w.heap.size + 1, 0, none⟩ = some (.slice bt nt ct) ∧ w'.cell? ⟨w.heap.size + 1, 1, none⟩ = some (.slice bb nb cb) ∧ w'.cell? ⟨w.heap.size + 1 + 1, 0, none⟩ = some (.slice bk nk ck) ∧ w'.cell? ⟨w.heap.size + 1 + 1, 1, none⟩ = some (.slice bz nz cz)) := fun w' ho => by
    have h := HZ.then ho
    exact ⟨h.cell 0 0 (by simp) rfl, h.cell 0 1 (by simp) rfl, h.cell 0 2 (by simp) rfl, h.cell 0 3 (by simp) rfl, h.cell 0 4 (by simp) rfl, h.cell 1 0 (by simp) rfl, h.cell 1 1 (by simp) rfl, h.cell 2 0 (by simp) rfl, h.cell 2 1 (by simp) rfl⟩
  have HCh : Hid (∀ wx, Old w wx → Calls Try.prog 56 #[gv P Q G H a n cap, .string (strOfNums label), cv bt nt ct bb nb cb, .slice bk nk ck] wx fun e w' => e = .returned (.int .u64 (chI label P Q G H nt T nb L B nk K)) ∧ Old wx w') := fun wx ho => pchal_any label P Q G H a n cap bt nt ct T bb nb cb BA L C B bk nk ck K wx h4 hlb hll mt mb mL mk (hC.old ho) (hK.old ho)
  have hcu := ch_u64 label P Q G H nt T nb L B nk K
  generalize chI label P Q G H nt T nb L B nk K = ch at *
  have HAc : Hid (∀ wx, Old w wx → Calls Try.prog 59 #[gv P Q G H a n cap, cv bt nt ct bb nb cb, .slice bk nk ck, .int .u64 ch, .slice bz nz cz] wx fun e w' => e = .returned (.bool (accB P Q nt T nb L B nk K ch nz X)) ∧ Old wx w') := fun wx ho => laccepts_gen P Q G H a n cap bt nt ct T bb nb cb BA L C B bk nk ck K ch bz nz cz X wx h4 hr hcu (by omega) (hC.old ho) (hK.old ho) (hX.old ho)
  have HSz : Hid (∀ wx, Old w wx → Calls Try.prog 44 #[gv P Q G H a n cap, cv bt nt ct bb nb cb] wx fun e w' => e = .returned (.int .i64 (sizeN P Q nt T nb L B : Nat)) ∧ Old wx w') := fun wx ho => lsize_gen P Q G H a n cap bt nt ct T bb nb cb BA L C B wx h4 (hC.old ho)
  have HN : Hid (¬ (sizeN P Q nt T nb L B ≠ 0 ∧ nk = nt) → accB P Q nt T nb L B nk K ch nz X = false) := fun hno => by
    refine Bool.eq_false_iff.2 fun hyes => hno ?_
    have h := accB_iff.1 hyes
    exact ⟨(fitsB_iff.1 h.1).1, h.2.1⟩
  have hszb := sizeN_le P Q nt T nb L B
  generalize accB P Q nt T nb L B nk K ch nz X = R at *
  clear h4 hr hlb hll mb mL hC hK hX hcu
  generalize sizeN P Q nt T nb L B = sz at *
  have HW0 : Hid (Old w (((w.alloc (.cells (gc P Q G H a n cap) 25)).alloc (.cells (cc bt nt ct bb nb cb) 34)).alloc (.cells (cc bk nk ck bz nz cz) 51))) := HZ.old
  by_cases hz : sz = 0
  · subst hz
    have HS0 : Hid (∀ wx, Old w wx → Calls Try.prog 44 #[gv P Q G H a n cap, cv bt nt ct bb nb cb] wx fun e w' => e = .returned (.int .i64 0) ∧ Old wx w') := HSz
    clear HSz
    have HN' : Hid (R = false) := HN.out fun h => h.1 rfl
    go_enter Try.func26, Try.ntmps26
    go_upto_region 1 with fail
    generalize hW : (((w.alloc (.cells (gc P Q G H a n cap) 25)).alloc (.cells (cc bt nt ct bb nb cb) 34)).alloc (.cells (cc bk nk ck bz nz cz) 51)) = W at *
    clear hW
    obtain ⟨d0, d1, d2, d3, d4, z0, z1, y0, y1⟩ := HT.out _ (Old.refl _)
    go_wp2_with (go_at_call 44; refine (HS0.out _ HW0.out).mono ?_; rintro e w2 ⟨rfl, h2⟩; clear d0 d1 d2 d3 d4 z0 z1 y0 y1; obtain ⟨d0, d1, d2, d3, d4, z0, z1, y0, y1⟩ := HT.out _ h2)
    go_ret
    exact ⟨by rw [HN'.out]; rfl, HW0.out.trans h2⟩
  have k1 : ¬ (sz : Int) = 0 := by omega
  have k2 : ((sz : Int) == 0) = false := by simp; omega
  by_cases hk : nk = nt
  · have k3 : ((nk : Int) != (nt : Int)) = false := by simp; omega
    clear hk
    go_enter Try.func26, Try.ntmps26
    go_upto_region 1 with fail
    generalize hW : (((w.alloc (.cells (gc P Q G H a n cap) 25)).alloc (.cells (cc bt nt ct bb nb cb) 34)).alloc (.cells (cc bk nk ck bz nz cz) 51)) = W at *
    clear hW
    obtain ⟨d0, d1, d2, d3, d4, z0, z1, y0, y1⟩ := HT.out _ (Old.refl _)
    go_upto_region 3 with (go_at_call 44; refine (HSz.out _ HW0.out).mono ?_; rintro e w2 ⟨rfl, h2⟩; clear d0 d1 d2 d3 d4 z0 z1 y0 y1; obtain ⟨d0, d1, d2, d3, d4, z0, z1, y0, y1⟩ := HT.out _ h2)
    have hd : Old W w2.drew := h2.drew
    go_region_held3 (fun w' => w'.cell? ⟨w.heap.size, 0, none⟩ = some (.int .u64 P) ∧ w'.cell? ⟨w.heap.size, 1, none⟩ = some (.int .u64 Q) ∧ w'.cell? ⟨w.heap.size, 2, none⟩ = some (.int .u64 G) ∧ w'.cell? ⟨w.heap.size, 3, none⟩ = some (.int .u64 H) ∧ w'.cell? ⟨w.heap.size, 4, none⟩ = some (.slice a n cap) ∧ w'.cell? ⟨w.heap.size + 1, 0, none⟩ = some (.slice bt nt ct) ∧ w'.cell? ⟨w.heap.size + 1, 1, none⟩ = some (.slice bb nb cb) ∧ w'.cell? ⟨w.heap.size + 1 + 1, 0, none⟩ = some (.slice bk nk ck) ∧ w'.cell? ⟨w.heap.size + 1 + 1, 1, none⟩ = some (.slice bz nz cz)) (first | exact HT.out _ h5 | exact HT.out _ h4 | exact HT.out _ hd) (first
      | (go_at_call 56; refine (HCh.out _ (HW0.out.trans hd)).mono ?_; rintro e w4 ⟨rfl, o4⟩; have h4 : Old W w4 := hd.trans o4)
      | (go_at_call 59; refine (HAc.out _ (HW0.out.trans h4)).mono ?_; rintro e w5 ⟨rfl, o5⟩; have h5 : Old W w5 := h4.trans o5))
    go_wp2_with fail
    go_ret
    exact ⟨rfl, HW0.out.trans h5⟩
  · have HN' : Hid (R = false) := HN.out fun h => hk h.2
    have k3 : ¬ (nk : Int) = (nt : Int) := by omega
    have k4 : ((nk : Int) != (nt : Int)) = true := by simp; omega
    have k5 : ((nk : Int) == (nt : Int)) = false := by simp; omega
    go_enter Try.func26, Try.ntmps26
    go_upto_region 1 with fail
    generalize hW : (((w.alloc (.cells (gc P Q G H a n cap) 25)).alloc (.cells (cc bt nt ct bb nb cb) 34)).alloc (.cells (cc bk nk ck bz nz cz) 51)) = W at *
    clear hW
    obtain ⟨d0, d1, d2, d3, d4, z0, z1, y0, y1⟩ := HT.out _ (Old.refl _)
    go_wp2_with (go_at_call 44; refine (HSz.out _ HW0.out).mono ?_; rintro e w2 ⟨rfl, h2⟩; clear d0 d1 d2 d3 d4 z0 z1 y0 y1; obtain ⟨d0, d1, d2, d3, d4, z0, z1, y0, y1⟩ := HT.out _ h2)
    go_ret
    exact ⟨by rw [HN'.out]; rfl, HW0.out.trans h2⟩

end Go.Proofs.Ytokhpppealdfmaf
