/-
  The document's Accept and Same (layer 7).
-/
import Derived.Test.YtokhpppealdfmafPrc
namespace Go.Proofs.Ytokhpppealdfmaf
open Go.RowKit

theorem numberI_u64 (label : List Int) (S : Nat → List Int) (n : Nat) (q : Int) : U64 (numberI label S n q) := by
  unfold numberI
  split
  · have := numF_bd (fun i => (sumL (numL label S n)).getD i 0) q 16
    exact ⟨this.1, by omega⟩
  · exact ⟨by omega, by omega⟩
theorem ch_u64 (label : List Int) (P Q G H : Int) (nt : Nat) (T : Nat → Int) (nb : Nat) (L : Nat → Nat) (B : Nat → Nat → Int) (nk : Nat) (K : Nat → Int) : U64 (chI label P Q G H nt T nb L B nk K) := numberI_u64 _ _ _ _

set_option maxRecDepth 100000 in
set_option maxHeartbeats 8000000 in
theorem raccept7_any (label : List Int) (P Q G H : Int) (a : Option Addr) (n cap : Nat) (bt : Option Addr) (nt ct : Nat) (T : Nat → Int) (bb : Option Addr) (nb cb : Nat) (BA : Nat → Option Addr) (L C : Nat → Nat) (B : Nat → Nat → Int) (bk : Option Addr) (nk ck : Nat) (K : Nat → Int) (bz : Option Addr) (nz cz : Nat) (X : Nat → Int) (w : World) (h4 : Four P Q G H) (hlb : Bts label) (hll : label.length ≤ 1000) (mt : nt ≤ 80) (mb : nb ≤ 80) (mL : ∀ j, j < nb → L j ≤ 80) (mk : nk ≤ 80) (hC : ClaimIn w bt nt ct T bb nb cb BA L C B) (hK : FacsIn w bk nk K) (hX : FacsIn w bz nz X) :
    Calls Try.prog 27 #[gv P Q G H a n cap, .string (strOfNums label), cv bt nt ct bb nb cb, cv bk nk ck bz nz cz] w fun e w' => e = .returned (.bool (accB P Q nt T nb L B nk K (chI label P Q G H nt T nb L B nk K) nz X)) ∧ Old w w' := by
  have HZ := lain3 w (gc P Q G H a n cap) (cc bt nt ct bb nb cb) (cc bk nk ck bz nz cz) 25 34 51
  have HT : Hid (∀ w', Old (((w.alloc (.cells (gc P Q G H a n cap) 25)).alloc (.cells (cc bt nt ct bb nb cb) 34)).alloc (.cells (cc bk nk ck bz nz cz) 51)) w' → w'.cell? ⟨w.heap.size, 0, none⟩ = some (.int .u64 P) ∧ w'.cell? ⟨w.heap.size, 1, none⟩ = some (.int .u64 Q) ∧ w'.cell? ⟨w.heap.size, 2, none⟩ = some (.int .u64 G) ∧ w'.cell? ⟨w.heap.size, 3, none⟩ = some (.int .u64 H) ∧ w'.cell? ⟨w.heap.size, 4, none⟩ = some (.slice a n cap) ∧ w'.cell? ⟨w.heap.size + 1, 0, none⟩ = some (.slice bt nt ct) ∧ w'.cell? ⟨w.heap.size + 1, 1, none⟩ = some (.slice bb nb cb) ∧ w'.cell? ⟨w.heap.size + 1 + 1, 0, none⟩ = some (.slice bk nk ck) ∧ w'.cell? ⟨w.heap.size + 1 + 1, 1, none⟩ = some (.slice bz nz cz)) := fun w' ho => by
    have h := HZ.then ho
    exact ⟨h.cell 0 0 (by simp) rfl, h.cell 0 1 (by simp) rfl, h.cell 0 2 (by simp) rfl, h.cell 0 3 (by simp) rfl, h.cell 0 4 (by simp) rfl, h.cell 1 0 (by simp) rfl, h.cell 1 1 (by simp) rfl, h.cell 2 0 (by simp) rfl, h.cell 2 1 (by simp) rfl⟩
  have HCh : Hid (∀ wx, Old w wx → Calls Try.prog 58 #[gv P Q G H a n cap, .string (strOfNums label), cv bt nt ct bb nb cb, .slice bk nk ck] wx fun e w' => e = .returned (.int .u64 (chI label P Q G H nt T nb L B nk K)) ∧ Old wx w') := fun wx ho => rchal_any label P Q G H a n cap bt nt ct T bb nb cb BA L C B bk nk ck K wx h4 hlb hll mt mb mL mk (hC.old ho) (hK.old ho)
  have hcu := ch_u64 label P Q G H nt T nb L B nk K
  generalize chI label P Q G H nt T nb L B nk K = ch at *
  have HAc : Hid (∀ wx, Old w wx → Calls Try.prog 60 #[gv P Q G H a n cap, cv bt nt ct bb nb cb, .slice bk nk ck, .int .u64 ch, .slice bz nz cz] wx fun e w' => e = .returned (.bool (accB P Q nt T nb L B nk K ch nz X)) ∧ Old wx w') := fun wx ho => raccepts_any P Q G H a n cap bt nt ct T bb nb cb BA L C B bk nk ck K ch bz nz cz X wx h4 hcu (hC.old ho) (hK.old ho) (hX.old ho)
  generalize accB P Q nt T nb L B nk K ch nz X = R at *
  clear h4 hlb hll mt mb mL mk hC hK hX hcu
  go_enter Try.func27, Try.ntmps27
  go_upto_region 1 with fail
  have HW0 : Hid (Old w (((w.alloc (.cells (gc P Q G H a n cap) 25)).alloc (.cells (cc bt nt ct bb nb cb) 34)).alloc (.cells (cc bk nk ck bz nz cz) 51))) := HZ.old
  generalize hW : ((w.alloc (.cells (gc P Q G H a n cap) 25)).alloc (.cells (cc bt nt ct bb nb cb) 34)).alloc (.cells (cc bk nk ck bz nz cz) 51) = W at *
  clear hW
  have hd : Old W W.drew := (Old.refl W).drew
  go_region_held3 (fun w' => w'.cell? ⟨w.heap.size, 0, none⟩ = some (.int .u64 P) ∧ w'.cell? ⟨w.heap.size, 1, none⟩ = some (.int .u64 Q) ∧ w'.cell? ⟨w.heap.size, 2, none⟩ = some (.int .u64 G) ∧ w'.cell? ⟨w.heap.size, 3, none⟩ = some (.int .u64 H) ∧ w'.cell? ⟨w.heap.size, 4, none⟩ = some (.slice a n cap) ∧ w'.cell? ⟨w.heap.size + 1, 0, none⟩ = some (.slice bt nt ct) ∧ w'.cell? ⟨w.heap.size + 1, 1, none⟩ = some (.slice bb nb cb) ∧ w'.cell? ⟨w.heap.size + 1 + 1, 0, none⟩ = some (.slice bk nk ck) ∧ w'.cell? ⟨w.heap.size + 1 + 1, 1, none⟩ = some (.slice bz nz cz)) (first | exact HT.out _ h5 | exact HT.out _ h4 | exact HT.out _ hd) (first
    | (go_at_call 58; refine (HCh.out _ (HW0.out.trans hd)).mono ?_; rintro e w4 ⟨rfl, o4⟩; have h4 : Old W w4 := hd.trans o4)
    | (go_at_call 60; refine (HAc.out _ (HW0.out.trans h4)).mono ?_; rintro e w5 ⟨rfl, o5⟩; have h5 : Old W w5 := h4.trans o5))
  go_wp2_with fail
  go_ret
  exact ⟨rfl, HW0.out.trans h5⟩

set_option maxHeartbeats 2000000 in
theorem rsame7_any (b1 : Option Addr) (n1 c1 : Nat) (X1 : Nat → Int) (b2 : Option Addr) (n2 c2 : Nat) (X2 : Nat → Int) (b3 : Option Addr) (n3 c3 : Nat) (X3 : Nat → Int) (b4 : Option Addr) (n4 c4 : Nat) (X4 : Nat → Int) (w : World) (m1 : n1 ≤ 9223372036854775807) (m2 : n2 ≤ 9223372036854775807) (h1 : FacsIn w b1 n1 X1) (h2 : FacsIn w b2 n2 X2) (h3 : FacsIn w b3 n3 X3) (h4 : FacsIn w b4 n4 X4) :
    Calls Try.prog 24 #[cv b1 n1 c1 b2 n2 c2, cv b3 n3 c3 b4 n4 c4] w fun e w' => e = .returned (.bool (sameB n1 X1 n3 X3 && sameB n2 X2 n4 X4)) ∧ Old w w' := by
  have HZ := lain2 w (cc b1 n1 c1 b2 n2 c2) (cc b3 n3 c3 b4 n4 c4) 51 51
  have HT : Hid (∀ w', Old ((w.alloc (.cells (cc b1 n1 c1 b2 n2 c2) 51)).alloc (.cells (cc b3 n3 c3 b4 n4 c4) 51)) w' → w'.cell? ⟨w.heap.size, 0, none⟩ = some (.slice b1 n1 c1) ∧ w'.cell? ⟨w.heap.size, 1, none⟩ = some (.slice b2 n2 c2) ∧ w'.cell? ⟨w.heap.size + 1, 0, none⟩ = some (.slice b3 n3 c3) ∧ w'.cell? ⟨w.heap.size + 1, 1, none⟩ = some (.slice b4 n4 c4)) := fun w' ho => by
    have h := HZ.then ho
    exact ⟨h.cell 0 0 (by simp) rfl, h.cell 0 1 (by simp) rfl, h.cell 1 0 (by simp) rfl, h.cell 1 1 (by simp) rfl⟩
  have HA : Hid (∀ wx, Old w wx → Calls Try.prog 18 #[.slice b1 n1 c1, .slice b3 n3 c3] wx fun e w' => e = .returned (.bool (sameB n1 X1 n3 X3)) ∧ Old wx w') := fun wx ho => rsame_any b1 n1 c1 X1 b3 n3 c3 X3 wx m1 (h1.old ho) (h3.old ho)
  have HB : Hid (∀ wx, Old w wx → Calls Try.prog 18 #[.slice b2 n2 c2, .slice b4 n4 c4] wx fun e w' => e = .returned (.bool (sameB n2 X2 n4 X4)) ∧ Old wx w') := fun wx ho => rsame_any b2 n2 c2 X2 b4 n4 c4 X4 wx m2 (h2.old ho) (h4.old ho)
  clear h1 h2 h3 h4 m1 m2
  generalize sameB n1 X1 n3 X3 = s1 at *
  generalize sameB n2 X2 n4 X4 = s2 at *
  go_enter Try.func24, Try.ntmps24
  go_upto_region 1 with fail
  have HW0 : Hid (Old w ((w.alloc (.cells (cc b1 n1 c1 b2 n2 c2) 51)).alloc (.cells (cc b3 n3 c3 b4 n4 c4) 51))) := HZ.old
  generalize hW : (w.alloc (.cells (cc b1 n1 c1 b2 n2 c2) 51)).alloc (.cells (cc b3 n3 c3 b4 n4 c4) 51) = W at *
  clear hW
  obtain ⟨p0, p1, q0, q1⟩ := HT.out _ (Old.refl _)
  cases s1 with
  | false =>
    go_wp2_with (go_at_call 18; refine (HA.out _ HW0.out).mono ?_; rintro e w1 ⟨rfl, o1⟩; obtain ⟨p0, p1, q0, q1⟩ := HT.out _ o1)
    go_ret
    exact ⟨rfl, HW0.out.trans o1⟩
  | true =>
    go_wp2_with (first
      | (go_at_call 18; have hg := o1; refine (HB.out _ (HW0.out.trans o1)).mono ?_; rintro e w2 ⟨rfl, o2⟩)
      | (go_at_call 18; refine (HA.out _ HW0.out).mono ?_; rintro e w1 ⟨rfl, o1⟩; obtain ⟨p0, p1, q0, q1⟩ := HT.out _ o1))
    go_ret
    exact ⟨rfl, (HW0.out.trans o1).trans o2⟩

end Go.Proofs.Ytokhpppealdfmaf
