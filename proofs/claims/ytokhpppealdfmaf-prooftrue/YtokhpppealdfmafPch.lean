/-
  The program's challenge (layer 7).
-/
import Derived.Test.YtokhpppealdfmafPrc
import Derived.Test.YtokhpppealdfmafPas
import Derived.Test.YtokhpppealdfmafK18
namespace Go.Proofs.Ytokhpppealdfmaf
open Go.RowKit

set_option maxRecDepth 100000 in
set_option maxHeartbeats 8000000 in
theorem pchal_any (label : List Int) (P Q G H : Int) (a : Option Addr) (n cap : Nat) (bt : Option Addr) (nt ct : Nat) (T : Nat → Int) (bb : Option Addr) (nb cb : Nat) (BA : Nat → Option Addr) (L C : Nat → Nat) (B : Nat → Nat → Int) (bk : Option Addr) (nk ck : Nat) (K : Nat → Int) (w : World) (h4 : Four P Q G H) (hlb : Bts label) (hll : label.length ≤ 1000) (mt : nt ≤ 80) (mb : nb ≤ 80) (mL : ∀ j, j < nb → L j ≤ 80) (mk : nk ≤ 80) (hC : ClaimIn w bt nt ct T bb nb cb BA L C B) (hK : FacsIn w bk nk K) :
    Calls Try.prog 56 #[gv P Q G H a n cap, .string (strOfNums label), cv bt nt ct bb nb cb, .slice bk nk ck] w fun e w' => e = .returned (.int .u64 (chI label P Q G H nt T nb L B nk K)) ∧ Old w w' := by
  have HZ := lain2 w (gc P Q G H a n cap) (cc bt nt ct bb nb cb) 25 34
  have HT : Hid (∀ w', Old ((w.alloc (.cells (gc P Q G H a n cap) 25)).alloc (.cells (cc bt nt ct bb nb cb) 34)) w' → w'.cell? ⟨w.heap.size, 0, none⟩ = some (.int .u64 P) ∧ w'.cell? ⟨w.heap.size, 1, none⟩ = some (.int .u64 Q) ∧ w'.cell? ⟨w.heap.size, 2, none⟩ = some (.int .u64 G) ∧ w'.cell? ⟨w.heap.size, 3, none⟩ = some (.int .u64 H) ∧ w'.cell? ⟨w.heap.size, 4, none⟩ = some (.slice a n cap) ∧ w'.cell? ⟨w.heap.size + 1, 0, none⟩ = some (.slice bt nt ct) ∧ w'.cell? ⟨w.heap.size + 1, 1, none⟩ = some (.slice bb nb cb)) := fun w' ho => by
    have h := HZ.then ho
    exact ⟨h.cell 0 0 (by simp) rfl, h.cell 0 1 (by simp) rfl, h.cell 0 2 (by simp) rfl, h.cell 0 3 (by simp) rfl, h.cell 0 4 (by simp) rfl, h.cell 1 0 (by simp) rfl, h.cell 1 1 (by simp) rfl⟩
  obtain ⟨S, hS⟩ : ∃ S : Nat → List Int, S = partS P Q G H nt T nb L B nk K := ⟨_, rfl⟩
  have HSb : Hid (∀ i, Bts (S i)) := fun i => by rw [hS]; exact partS_bd _ _ _ _ _ _ _ _ _ _ _ i
  have hlen : ∀ i, (S i).length ≤ 640 := fun i => by rw [hS]; exact partS_len P Q G H T B K mt mL mk i
  have HN4 : Hid (∀ (wx wy : World) (t : TypeId), Old (wx.alloc (.cells #[.int .u64 P, .int .u64 Q, .int .u64 G, .int .u64 H] t)) wy → Calls Try.prog 78 #[.slice (some ⟨wx.heap.size, 0, none⟩) 4 4] wy fun e w' => e = .returned (.string (strOfNums (S 0))) ∧ Old wy w') := fun wx wy t ho => (pbytes_any _ 4 4 (four4 P Q G H) wy (by omega) ((facs_four wx P Q G H t h4).old ho)).mono fun e w' ⟨h, k⟩ => ⟨by rw [h, hS]; rfl, k⟩
  have HNt : Hid (∀ wx, Old w wx → Calls Try.prog 78 #[.slice bt nt ct] wx fun e w' => e = .returned (.string (strOfNums (S 1))) ∧ Old wx w') := fun wx ho => (pbytes_any bt nt ct T wx (by omega) (hC.tar.old ho)).mono fun e w' ⟨h, k⟩ => ⟨by rw [h, hS]; rfl, k⟩
  have HNr : Hid (∀ j wx, j < nb → Old w wx → Calls Try.prog 78 #[.slice (BA j) (L j) (C j)] wx fun e w' => e = .returned (.string (strOfNums (S (j + 2)))) ∧ Old wx w') := fun j wx hj ho => (pbytes_any (BA j) (L j) (C j) (B j) wx (by have := mL j hj; omega) ((hC.bas.facs hj).old ho)).mono fun e w' ⟨h, k⟩ => ⟨by rw [h, hS, partS_row hj], k⟩
  have HNk : Hid (∀ wx, Old w wx → Calls Try.prog 78 #[.slice bk nk ck] wx fun e w' => e = .returned (.string (strOfNums (S (nb + 2)))) ∧ Old wx w') := fun wx ho => (pbytes_any bk nk ck K wx (by omega) (hK.old ho)).mono fun e w' ⟨h, k⟩ => ⟨by rw [h, hS, partS_last], k⟩
  have HNu : Hid (∀ b c wx, StrsIn wx b (nb + 3) S → Calls Try.prog 79 #[.string (strOfNums label), .slice b (nb + 3) c, .int .u64 Q] wx fun e w' => e = .returned (.int .u64 (chI label P Q G H nt T nb L B nk K)) ∧ Old wx w') := fun b c wx hs => (dnumber_any label b (nb + 3) c S Q wx hlb hs (by omega) (by have := numL_le (label := label) hlen (nb + 3); omega)).mono fun e w' ⟨h, k⟩ => ⟨by rw [h, hS]; rfl, k⟩
  have HB : Hid (ListsIn w bb nb BA L C B) := hC.bas
  generalize chI label P Q G H nt T nb L B nk K = R at *
  clear hS hlen h4 hlb hll mL mk hC hK mt
  obtain ⟨i0, hi0, hz0, hz1, hz2⟩ := info_parts strinfo
  go_enter Try.func56, Try.ntmps56
  go_upto_region 1 with fail
  have HW0 : Hid (Old w ((w.alloc (.cells (gc P Q G H a n cap) 25)).alloc (.cells (cc bt nt ct bb nb cb) 34))) := HZ.old
  generalize hW : (w.alloc (.cells (gc P Q G H a n cap) 25)).alloc (.cells (cc bt nt ct bb nb cb) 34) = W at *
  clear hW
  obtain ⟨d0, d1, d2, d3, d4, z0, z1⟩ := HT.out _ (Old.refl _)
  have hd : Old W W.drew := (Old.refl W).drew
  go_region_held3 (fun w' => w'.cell? ⟨w.heap.size, 0, none⟩ = some (.int .u64 P) ∧ w'.cell? ⟨w.heap.size, 1, none⟩ = some (.int .u64 Q) ∧ w'.cell? ⟨w.heap.size, 2, none⟩ = some (.int .u64 G) ∧ w'.cell? ⟨w.heap.size, 3, none⟩ = some (.int .u64 H) ∧ w'.cell? ⟨w.heap.size, 4, none⟩ = some (.slice a n cap) ∧ w'.cell? ⟨w.heap.size + 1, 0, none⟩ = some (.slice bt nt ct) ∧ w'.cell? ⟨w.heap.size + 1, 1, none⟩ = some (.slice bb nb cb)) (first | exact HT.out _ (h4.alloc _) | exact HT.out _ (hT.alloc _) | exact HT.out _ h4 | exact HT.out _ hT | exact HT.out _ (hd.alloc _) | exact HT.out _ hd) (first
    | (go_at_call_of 78 (Value.slice bt nt ct); refine (HNt.out _ (by first | exact HW0.out.trans h4 | exact HW0.out.trans (hd.alloc _) | exact HW0.out.trans hd)).mono ?_; rintro e wT ⟨rfl, oT⟩; have hT : Old W wT := (by first | exact h4.trans oT | exact (hd.alloc _).trans oT | exact hd.trans oT))
    | (go_at_call 78; refine (HN4.out _ _ _ (by first | exact Old.refl _ | exact oT | exact Old.drewAlloc _ _ | exact (Old.drewAlloc _ _).trans oT)).mono ?_; rintro e w4 ⟨rfl, o4⟩; have h4 : Old W w4 := (by first | exact (hT.alloc _).trans o4 | exact hT.trans o4 | exact (hd.alloc _).trans o4)))
  have HOw : Hid ((wT.alloc (.cells #[.string (strOfNums (S 0)), .string (strOfNums (S 1))] 9)).ownsRow W.heap.size 9 1 (.slice (some ⟨wT.heap.size, 0, none⟩) 2 2) 2 (cellsS S 2)) := strs_two wT W.heap.size S hT.size
  have HWl : Hid (Old W (wT.alloc (.cells #[.string (strOfNums (S 0)), .string (strOfNums (S 1))] 9))) := hT.alloc _
  generalize wT.alloc (.cells #[.string (strOfNums (S 0)), .string (strOfNums (S 1))] 9) = Wl at *
  clear d0 d1 d2 d3 d4 z0 z1
  go_upto_region 3 with fail
  go_loopw [9, 29] (fun pv iv wx => ∃ i : Nat, iv = .int .i64 (i : Int) ∧ i ≤ nb ∧ Hid (wx.ownsRow W.heap.size 9 1 pv (i + 2) (cellsS S (i + 2))) ∧ Hid (Old W wx)) (fun _ iv _ => nb - (intOf iv).toNat)
  case atStart => exact ⟨0, rfl, Nat.zero_le _, HOw, HWl⟩
  case round =>
    obtain ⟨i, rfl, hi, HP, HW⟩ := hrel
    obtain ⟨d0, d1, d2, d3, d4, z0, z1⟩ := HT.out _ HW.out
    by_cases hlt : i < nb
    · rcases HB.out with h0 | ⟨bx, ox, hqx, _, hrx⟩
      · omega
      have cx := (HW0.out.trans HW.out).cellOf (hrx i hlt).1
      clear hrx
      subst hqx
      have HC : Hid (Calls Try.prog 78 #[.slice (BA i) (L i) (C i)] wr fun e w' => e = .returned (.string (strOfNums (S (i + 2)))) ∧ Old wr w') := HNr.out i wr hlt (HW0.out.trans HW.out)
      generalize hsi : S (i + 2) = Si at *
      have HSi : Hid (S (i + 2) = Si) := hsi
      clear hsi
      go_wp2_with (first
        | (go_at_call 78; refine HC.out.mono ?_; rintro e w1 ⟨rfl, o1⟩; have hs1 := (HW.out.trans o1).size)
        | (at_builtin; refine wpList_append_own _ rfl _ _ 104 rfl W.heap.size 9 i0 (.string ⟨#[]⟩) 1 16 Try.underlying104 hi0 hz0 hz1 hz2 rfl (by decide) _ _ _ rfl ((own_old HP.out o1).alloc _) ⟨w1.heap.size, 0, none⟩ 1 1 [.string (strOfNums Si)] rfl rfl ?c1 ?c2 ?c3 ?c4 ?c5 ?_))
      case c1 => exact cell_one_new _ _ _
      case c2 => intro u hu; simp at hu; subst hu; rfl
      case c3 => unfold maxLen; omega
      case c4 => omega
      case c5 => simp; omega
      intro v' w2 hown' hgrow _
      have ho2 : Hid (Old W w2) := old_app (HW.out.trans o1) (own_old HP.out o1) hgrow
      have hw2 : Hid (w2.ownsRow W.heap.size 9 1 v' (i + 1 + 2) (cellsS S (i + 1 + 2))) := by
        have e : cellsS S (i + 1 + 2) = cellsS S (i + 2) ++ [.string (strOfNums Si)] := by rw [← HSi.out]; exact cellsS_succ S (i + 2)
        unfold Hid
        rw [e]
        exact hown'
      clear hown' hgrow
      go_wp2_with fail
      go_roundw
      case rel => exact ⟨i + 1, by first | exact idx_next i | exact idx_up i, by omega, hw2, ho2⟩
      case measure => simp [intOf]; omega
    · have he : nb = i := by omega
      subst he
      have HC : Hid (Calls Try.prog 78 #[.slice bk nk ck] wr fun e w' => e = .returned (.string (strOfNums (S (nb + 2)))) ∧ Old wr w') := HNk.out wr (HW0.out.trans HW.out)
      generalize hsi : S (nb + 2) = Si at *
      have HSi : Hid (S (nb + 2) = Si) := hsi
      clear hsi
      go_upto_region 8 with (first
        | (go_at_call 78; refine HC.out.mono ?_; rintro e w1 ⟨rfl, o1⟩; have hs1 := (HW.out.trans o1).size)
        | (at_builtin; refine wpList_append_own _ rfl _ _ 104 rfl W.heap.size 9 i0 (.string ⟨#[]⟩) 1 16 Try.underlying104 hi0 hz0 hz1 hz2 rfl (by decide) _ _ _ rfl ((own_old HP.out o1).alloc _) ⟨w1.heap.size, 0, none⟩ 1 1 [.string (strOfNums Si)] rfl rfl ?c1 ?c2 ?c3 ?c4 ?c5 ?_))
      case c1 => exact cell_one_new _ _ _
      case c2 => intro u hu; simp at hu; subst hu; rfl
      case c3 => unfold maxLen; omega
      case c4 => omega
      case c5 => simp; omega
      intro v' w2 hown' hgrow _
      have ho2 : Hid (Old W w2) := old_app (HW.out.trans o1) (own_old HP.out o1) hgrow
      have hw2 : w2.ownsRow W.heap.size 9 1 v' (nb + 3) (cellsS S (nb + 3)) := by
        have e : cellsS S (nb + 3) = cellsS S (nb + 2) ++ [.string (strOfNums Si)] := by rw [← HSi.out]; exact cellsS_succ S (nb + 2)
        rw [e]
        exact hown'
      obtain ⟨ba, bc, rfl, _, hst⟩ := own_strs hw2 (fun j _ => HSb.out j)
      have HN : Hid (Calls Try.prog 79 #[.string (strOfNums label), .slice ba (nb + 3) bc, .int .u64 Q] w2 fun e w' => e = .returned (.int .u64 R) ∧ Old w2 w') := HNu.out ba bc w2 hst
      clear hown' hgrow hw2 hst d0 d1 d2 d3 d4 z0 z1
      obtain ⟨d0, d1, d2, d3, d4, z0, z1⟩ := HT.out _ ho2.out
      go_wp2_with (go_at_call 79; refine HN.out.mono ?_; rintro e w3 ⟨rfl, o3⟩)
      go_ret
      exact ⟨rfl, (HW0.out.trans ho2.out).trans o3⟩

end Go.Proofs.Ytokhpppealdfmaf
