/-
  What the proof needs, part 15.
-/
import Derived.Test.YtlnmjbbpenhdbaaGreatKp14
import Derived.Test.YtlnmjbbpenhdbaaGreatKp09
namespace Go.Proofs.YtlnmjbbpenhdbaaGreat
open Tryz
set_option linter.unusedSimpArgs false
set_option linter.unusedVariables false
set_option maxRecDepth 100000
set_option maxHeartbeats 32000000
section
open Go.RowKit
theorem pchal_any (label : List Int) (P Q G H : Int) (a : OA) (n cap : Nat) (bt : OA) (nt ct : Nat) (T : NI) (bb : OA) (nb cb : Nat) (BA : Nat -> Option Addr) (L C : Nat -> Nat) (B : NN) (bk : OA) (nk ck : Nat) (K : NI) (w : World) (h4 : Four P Q G H) (hlb : Bts label) (hll : label.length <= 1000) (mt : nt <= 80) (mb : nb <= 80) (mL : ∀ j, j < nb -> L j <= 80) (mk : nk <= 80) (hC : ClaimIn w bt nt ct T bb nb cb BA L C B) (hK : FacsIn w bk nk K) :
  Calls prog 129 #[gv P Q G H a n cap, .string (strOfNums label), cv bt nt ct bb nb cb, .slice bk nk ck] w fun e w' => e = .returned (.int .u64 (chI label P Q G H nt T nb L B nk K)) /\ Old w w' := by
 have HZ := lain2 w (gc P Q G H a n cap) (cc bt nt ct bb nb cb) 25 50
 have HT : Hid (∀ w', Old ((w.alloc (.cells (gc P Q G H a n cap) 25)).alloc (.cells (cc bt nt ct bb nb cb) 50)) w' -> w'.cell? ⟨w.heap.size, 0, none⟩ = some (.int .u64 P) /\ w'.cell? ⟨w.heap.size, 1, none⟩ = some (.int .u64 Q) /\ w'.cell? ⟨w.heap.size, 2, none⟩ = some (.int .u64 G) /\ w'.cell? ⟨w.heap.size, 3, none⟩ = some (.int .u64 H) /\ w'.cell? ⟨w.heap.size, 4, none⟩ = some (.slice a n cap) /\ w'.cell? ⟨w.heap.size + 1, 0, none⟩ = some (.slice bt nt ct) /\ w'.cell? ⟨w.heap.size + 1, 1, none⟩ = some (.slice bb nb cb)) := fun w' ho => by
  have h := HZ.then ho
  exact ⟨h.cell 0 0 (by simp) rfl, h.cell 0 1 (by simp) rfl, h.cell 0 2 (by simp) rfl, h.cell 0 3 (by simp) rfl, h.cell 0 4 (by simp) rfl, h.cell 1 0 (by simp) rfl, h.cell 1 1 (by simp) rfl⟩
 obtain ⟨S, hS⟩ : ∃ S : Nat -> List Int, S = partS P Q G H nt T nb L B nk K := ⟨_, rfl⟩
 have HSb : Hid (∀ i, Bts (S i)) := fun i => by rw [hS]; exact partS_bd _ _ _ _ _ _ _ _ _ _ _ i
 have hlen : ∀ i, (S i).length <= 640 := fun i => by rw [hS]; exact partS_len P Q G H T B K mt mL mk i
 have HN4 : Hid (∀ (wx wy : World) (t : TypeId), Old (wx.alloc (.cells #[.int .u64 P, .int .u64 Q, .int .u64 G, .int .u64 H] t)) wy -> Calls prog 147 #[.slice (some ⟨wx.heap.size, 0, none⟩) 4 4] wy fun e w' => e = .returned (.string (strOfNums (S 0))) /\ Old wy w') := fun wx wy t ho => (zcE _ 4 4 (four4 P Q G H) wy (by omega) ((facs_four wx P Q G H t h4).old ho)).mono fun e w' ⟨h, k⟩ => ⟨by rw [h, hS]; rfl, k⟩
 have HNt : Hid (∀ wx, Old w wx -> Calls prog 147 #[.slice bt nt ct] wx fun e w' => e = .returned (.string (strOfNums (S 1))) /\ Old wx w') := fun wx ho => (zcE bt nt ct T wx (by omega) (hC.tar.old ho)).mono fun e w' ⟨h, k⟩ => ⟨by rw [h, hS]; rfl, k⟩
 have HNr : Hid (∀ j wx, j < nb -> Old w wx -> Calls prog 147 #[.slice (BA j) (L j) (C j)] wx fun e w' => e = .returned (.string (strOfNums (S (j + 2)))) /\ Old wx w') := fun j wx hj ho => (zcE (BA j) (L j) (C j) (B j) wx (by have := mL j hj; omega) ((hC.bas.facs hj).old ho)).mono fun e w' ⟨h, k⟩ => ⟨by rw [h, hS, partS_row hj], k⟩
 have HNk : Hid (∀ wx, Old w wx -> Calls prog 147 #[.slice bk nk ck] wx fun e w' => e = .returned (.string (strOfNums (S (nb + 2)))) /\ Old wx w') := fun wx ho => (zcE bk nk ck K wx (by omega) (hK.old ho)).mono fun e w' ⟨h, k⟩ => ⟨by rw [h, hS, ze0], k⟩
 have HNu : Hid (∀ b c wx, StrsIn wx b (nb + 3) S -> Calls prog 128 #[.string (strOfNums label), .slice b (nb + 3) c, .int .u64 Q] wx fun e w' => e = .returned (.int .u64 (chI label P Q G H nt T nb L B nk K)) /\ Old wx w') := fun b c wx hs => (zey label b (nb + 3) c S Q wx hlb hs (by omega) (by have := numL_le (label := label) hlen (nb + 3); omega)).mono fun e w' ⟨h, k⟩ => ⟨by rw [h, hS]; rfl, k⟩
 have HB := hid hC.bas
 generalize chI label P Q G H nt T nb L B nk K = R at *
 clear hS hlen h4 hlb hll mL mk hC hK mt
 obtain ⟨i0, hi0, hz0, hz1, hz2⟩ := info_parts strinfo
 go_enter func129, ntmps129
 go_upto_region 1 with fail
 have HW0 := hid HZ.old
 generalize hW : (w.alloc (.cells (gc P Q G H a n cap) 25)).alloc (.cells (cc bt nt ct bb nb cb) 50) = W at *
 clear hW
 obtain ⟨d0, d1, d2, d3, d4, z0, z1⟩ := HT.out _ (Old.refl _)
 have hd : Old W W.drew := (Old.refl W).drew
 go_region_held3 (fun w' => w'.cell? ⟨w.heap.size, 0, none⟩ = some (.int .u64 P) /\ w'.cell? ⟨w.heap.size, 1, none⟩ = some (.int .u64 Q) /\ w'.cell? ⟨w.heap.size, 2, none⟩ = some (.int .u64 G) /\ w'.cell? ⟨w.heap.size, 3, none⟩ = some (.int .u64 H) /\ w'.cell? ⟨w.heap.size, 4, none⟩ = some (.slice a n cap) /\ w'.cell? ⟨w.heap.size + 1, 0, none⟩ = some (.slice bt nt ct) /\ w'.cell? ⟨w.heap.size + 1, 1, none⟩ = some (.slice bb nb cb)) (first | exact HT.out _ (h4.alloc _) | exact HT.out _ (hT.alloc _) | exact HT.out _ h4 | exact HT.out _ hT | exact HT.out _ (hd.alloc _) | exact HT.out _ hd) (first
  | (go_at_call_of 147 (Value.slice bt nt ct); refine (HNt.out _ (by first | exact HW0.out.trans h4 | exact HW0.out.trans (hd.alloc _) | exact HW0.out.trans hd)).mono ?_; rintro e wT ⟨rfl, oT⟩; have hT : Old W wT := (by first | exact h4.trans oT | exact (hd.alloc _).trans oT | exact hd.trans oT))
  | (go_at_call 147; refine (HN4.out _ _ _ (by first | exact Old.refl _ | exact oT | exact Old.drewAlloc _ _ | exact (Old.drewAlloc _ _).trans oT)).mono ?_; rintro e w4 ⟨rfl, o4⟩; have h4 : Old W w4 := (by first | exact (hT.alloc _).trans o4 | exact hT.trans o4 | exact (hd.alloc _).trans o4)))
 have HOw := hid (strs_two wT W.heap.size S hT.size)
 have HWl : Hid (Old W (wT.alloc (.cells #[.string (strOfNums (S 0)), .string (strOfNums (S 1))] 9))) := hT.alloc _
 generalize wT.alloc (.cells #[.string (strOfNums (S 0)), .string (strOfNums (S 1))] 9) = Wl at *
 clear d0 d1 d2 d3 d4 z0 z1
 go_upto_region 3 with fail
 go_loopw [9, 29] (fun pv iv wx => ∃ i : Nat, iv = .int .i64 (i : Int) /\ i <= nb /\ Hid (wx.ownsRow W.heap.size 9 1 pv (i + 2) (zag S (i + 2))) /\ Hid (Old W wx)) (fun _ iv _ => nb - (intOf iv).toNat)
 case atStart => exact ⟨0, rfl, Nat.zero_le _, HOw, HWl⟩
 case round =>
  obtain ⟨i, rfl, hi, HP, HW⟩ := hrel
  obtain ⟨d0, d1, d2, d3, d4, z0, z1⟩ := HT.out _ HW.out
  by_cases hlt : i < nb
  ·rcases HB.out with h0 | ⟨bx, ox, hqx, _, hrx⟩
   ·omega
   have cx := (HW0.out.trans HW.out).cellOf (hrx i hlt).1
   clear hrx
   subst hqx
   have HC := hid (HNr.out i wr hlt (HW0.out.trans HW.out))
   generalize hsi : S (i + 2) = Si at *
   have HSi := hid hsi
   clear hsi
   go_wp2_with (first
    | (go_at_call 147; refine HC.out.mono ?_; rintro e w1 ⟨rfl, o1⟩; have hs1 := (HW.out.trans o1).size)
    | (at_builtin; refine wpList_append_own _ rfl _ _ 143 rfl W.heap.size 9 i0 (.string ⟨#[]⟩) 1 16 underlying143 hi0 hz0 hz1 hz2 rfl (by decide) _ _ _ rfl ((zbu HP.out o1).alloc _) ⟨w1.heap.size, 0, none⟩ 1 1 [.string (strOfNums Si)] rfl rfl ?c1 ?c2 ?c3 ?c4 ?c5 ?_))
   case c1 => exact cell_one_new _ _ _
   case c2 => intro u hu; simp at hu; subst hu; rfl
   case c3 => unfold maxLen; omega
   case c4 => omega
   case c5 => simp; omega
   intro v' w2 hown' hgrow _
   have ho2 := hid (zcj (HW.out.trans o1) (zbu HP.out o1) hgrow)
   have hw2 : Hid (w2.ownsRow W.heap.size 9 1 v' (i + 1 + 2) (zag S (i + 1 + 2))) := by
    have e : zag S (i + 1 + 2) = zag S (i + 2) ++ [.string (strOfNums Si)] := by rw [<- HSi.out]; exact zbD S (i + 2)
    unfold Hid
    rw [e]
    exact hown'
   clear hown' hgrow
   go_wp2_with fail
   go_roundw
   case rel => exact ⟨i + 1, by first | exact zab i | exact zdk i, by omega, hw2, ho2⟩
   case measure => simp [intOf]; omega
  ·have he : nb = i := by omega
   subst he
   have HC := hid (HNk.out wr (HW0.out.trans HW.out))
   generalize hsi : S (nb + 2) = Si at *
   have HSi := hid hsi
   clear hsi
   go_upto_region 8 with (first
    | (go_at_call 147; refine HC.out.mono ?_; rintro e w1 ⟨rfl, o1⟩; have hs1 := (HW.out.trans o1).size)
    | (at_builtin; refine wpList_append_own _ rfl _ _ 143 rfl W.heap.size 9 i0 (.string ⟨#[]⟩) 1 16 underlying143 hi0 hz0 hz1 hz2 rfl (by decide) _ _ _ rfl ((zbu HP.out o1).alloc _) ⟨w1.heap.size, 0, none⟩ 1 1 [.string (strOfNums Si)] rfl rfl ?c1 ?c2 ?c3 ?c4 ?c5 ?_))
   case c1 => exact cell_one_new _ _ _
   case c2 => intro u hu; simp at hu; subst hu; rfl
   case c3 => unfold maxLen; omega
   case c4 => omega
   case c5 => simp; omega
   intro v' w2 hown' hgrow _
   have ho2 := hid (zcj (HW.out.trans o1) (zbu HP.out o1) hgrow)
   have hw2 : w2.ownsRow W.heap.size 9 1 v' (nb + 3) (zag S (nb + 3)) := by
    have e : zag S (nb + 3) = zag S (nb + 2) ++ [.string (strOfNums Si)] := by rw [<- HSi.out]; exact zbD S (nb + 2)
    rw [e]
    exact hown'
   obtain ⟨ba, bc, rfl, _, hst⟩ := own_strs hw2 (fun j _ => HSb.out j)
   have HN := hid (HNu.out ba bc w2 hst)
   clear hown' hgrow hw2 hst d0 d1 d2 d3 d4 z0 z1
   obtain ⟨d0, d1, d2, d3, d4, z0, z1⟩ := HT.out _ ho2.out
   go_wp2_with (go_at_call 128; refine HN.out.mono ?_; rintro e w3 ⟨rfl, o3⟩)
   go_ret
   exact ⟨rfl, (HW0.out.trans ho2.out).trans o3⟩
end
section
open Go.RowKit
set_option linter.unusedSimpArgs false in
theorem zcw (b : OA) (n cap : Nat) (F : NI) (w : World) (hn : n <= 1000) (h : FacsIn w b n F) :
  Calls prog 126 #[.slice b n cap] w fun e w' => e = .returned (.string (strOfNums (packL F n))) /\ Old w w' := by
 obtain ⟨i0, hi0, hz0, hz1, hz2⟩ := info_parts zfk
 have HX : Hid (FacsIn w b n F) := h
 have hmk : ∀ wx, (Instr.makeSlice 152 (.int .i64 0) (.int .i64 (8 * (n : Int)))).run prog wx = .ok (.slice (some ⟨wx.heap.size, 0, none⟩) 0 (8 * n)) (wx.alloc (.cells (madeCells #[Value.int .u8 0] (8 * n)) 5)) := make8_run n hn
 clear h
 have HO0 : Hid ((w.alloc (.cells (madeCells #[Value.int .u8 0] (8 * n)) 5)).ownsRow w.heap.size 5 1 (.slice (some ⟨w.heap.size, 0, none⟩) 0 (8 * n)) 0 []) := World.ownsRow_made w _ (8 * n) (Nat.le_refl _) (by unfold maxLen; omega) (by rw [size_madeCells]; omega)
 have HW0 : Hid (Old w (w.alloc (.cells (madeCells #[Value.int .u8 0] (8 * n)) 5))) := (Old.refl _).alloc _
 go_enter func126, ntmps126
 go_wp2_with fail
 go_loopw [3, 13] (fun v iv wx => ∃ i : Nat, iv = .int .i64 (i : Int) /\ i <= n /\ Hid (v ≠ .slice none 0 0) /\ Hid (wx.ownsRow w.heap.size 5 1 v (8 * i) ((packL F i).map (Value.int .u8))) /\ Hid (Old w wx)) (fun _ iv _ => n - (intOf iv).toNat)
 case atStart => exact ⟨0, rfl, Nat.zero_le _, (by unfold Hid; simp), HO0, HW0⟩
 case round =>
  obtain ⟨i, rfl, hi, HE, HV, HO⟩ := hrel
  by_cases hlt : i < n
  ·rcases HX.out.old HO.out with h0 | ⟨bx, ox, hqx, _, hrx⟩
   ·omega
   have cx := (hrx i hlt).1
   clear hrx
   subst hqx
   have HP : Hid (packL F (i + 1) = packL F i ++ zaY (F i) 8 8) := rfl
   generalize F i = x at *
   go_wp2_with fail
   go_loopw [3, 6] (fun v sv wx => ∃ j r : Nat, j + r = 8 /\ sv = .int .i64 (8 * (r : Int) - 8) /\ Hid (v ≠ .slice none 0 0) /\ Hid (wx.ownsRow w.heap.size 5 1 v (8 * i + j) ((packL F i ++ zaY x 8 j).map (Value.int .u8))) /\ Hid (Old w wx)) (fun _ sv _ => (intOf sv + 8).toNat)
   case atStart => exact ⟨0, 8, by omega, rfl, HE, by have := HV; unfold Hid at this ⊢; simpa [zaY] using this, HO⟩
   case round =>
    obtain ⟨j, r, hjr, rfl, HE2, HV2, HO2⟩ := hrel
    cases r with
    | zero =>
     obtain rfl : j = 8 := by omega
     have HV3 : Hid (wr.ownsRow w.heap.size 5 1 u3 (8 * (i + 1)) ((packL F (i + 1)).map (Value.int .u8))) := by rw [HP.out]; exact HV2
     go_wp2_with fail
     go_roundw
     case rel => exact ⟨i + 1, zab i, by omega, HE2, HV3, HO2⟩
     case measure => simp [intOf]; omega
    | succ q =>
     have eq : (8 : Int) * ((q + 1 : Nat) : Int) - 8 = ((8 * q : Nat) : Int) := by omega
     simp only [eq]
     clear eq
     have hs := HO2.out.size
     have HB : Hid (zaY x 8 (j + 1) = zaY x 8 j ++ [zbl x q]) := by unfold Hid; rw [zcP, show 8 - 1 - j = q by omega]
     have q0 : (0 : Int) <= ((8 * q : Nat) : Int) := by omega
     have q1 : ((8 * q : Nat) : Int) < 64 := by omega
     go_wp2_with (at_builtin; refine wpList_append_own _ rfl _ _ 152 rfl w.heap.size 5 i0 (.int .u8 0) 1 1 underlying152 hi0 hz0 hz1 hz2 rfl (by decide) _ _ _ rfl (World.ownsRow.alloc HV2.out _) ⟨wr.heap.size, 0, none⟩ 1 1 [.int .u8 (zbl x q)] rfl rfl ?c1 ?c2 ?c3 ?c4 ?c5 ?_)
     case c1 => exact cell_one_new _ _ _
     case c2 => intro u hu; simp at hu; subst hu; rfl
     case c3 => unfold maxLen; omega
     case c4 => omega
     case c5 => simp; omega
     intro v' w1 hown' hgrow hne
     have HE3 : Hid (v' ≠ .slice none 0 0) := hne
     clear hne
     have HO3 : Hid (Old w w1) := zcj HO2.out HV2.out hgrow
     have HV3 : Hid (w1.ownsRow w.heap.size 5 1 v' (8 * i + (j + 1)) ((packL F i ++ zaY x 8 (j + 1)).map (Value.int .u8))) := by
      rw [HB.out]
      simp only [List.map_append, List.map_cons, List.map_nil, List.append_assoc] at hown' ⊢
      exact hown'
     clear hown' hgrow
     go_wp2_with fail
     go_roundw
     case rel => exact ⟨j + 1, q, by omega, by first | rfl | (congr 1; omega), HE3, HV3, HO3⟩
     case measure => simp [intOf]; omega
  ·have he : n = i := by omega
   subst he
   have zl := zar F n
   have HC : Hid (∃ g c, u3 = .slice g (8 * n) c /\ (convert 152 9 (.slice g (8 * n) c)).run prog wr = .ok (.string (strOfNums (packL F n))) wr) := by
    rcases HV.out.2 with ⟨hv, _⟩ | ⟨g, c, cur, hv, _, _, _⟩
    ·exact absurd hv HE.out
    ·subst hv
     refine ⟨_, c, rfl, run_convert_bytes_arg wr 152 5 underlying152 underlying5 g 0 (8 * n) c (packL F n) zl (fun i hi => ?_) 9 underlying9⟩
     rw [Nat.zero_add, HV.out.cellAt i (by omega), List.getElem?_map, List.getD, List.getElem?_eq_getElem (by omega)]
     rfl
   obtain ⟨g, c, rfl, hcv⟩ := HC.out
   clear HV
   go_wp2_with fail
   go_ret
   exact ⟨rfl, HO.out⟩
end
section
open Go.RowKit
def askS (l : List Int) (K : Nat -> List Int) (B : NN) (L : Nat -> Nat) : Nat -> List Int := fun i => if i = 0 then l else if i < 4 then K (i - 1) else packL (B (i - 4)) (L (i - 4))
theorem zeu {label : List Int} {S S' : Nat -> List Int} : ∀ {n : Nat}, (∀ i, i < n -> S i = S' i) -> numL label S n = numL label S' n
 | 0, _ => rfl
 | n + 1, h => by
  show numL label S n ++ (_ ++ _) = numL label S' n ++ (_ ++ _)
  rw [zeu fun i hi => h i (by omega), h n (by omega)]
theorem zbg {label : List Int} {S S' : Nat -> List Int} {n : Nat} {Q : Int} (h : ∀ i, i < n -> S i = S' i) : zaj label S n Q = zaj label S' n Q := by
 unfold zaj
 rw [zeu h]
theorem strs_one (w : World) (base : Nat) (S : Nat -> List Int) (hb : base <= w.heap.size) : (w.alloc (.cells #[.string (strOfNums (S 0))] 9)).ownsRow base 9 1 (.slice (some ⟨w.heap.size, 0, none⟩) 1 1) 1 (zag S 1) :=
 ⟨by simp [zag], Or.inr ⟨w.heap.size, 1, _, rfl, hb, heap_alloc_last w _, by omega, by unfold maxLen; omega, by simp, by simp [zag, List.range_succ]⟩⟩
theorem cells_four (S : Nat -> List Int) : zag S 4 = zag S 1 ++ [.string (strOfNums (S 1)), .string (strOfNums (S 2)), .string (strOfNums (S 3))] := rfl
theorem sak_any (l label : List Int) (K : Nat -> List Int) (Q : Int) (kb sb lb gb : Nat) (bl : OA) (m cl : Nat) (BA : Nat -> Option Addr) (L C : Nat -> Nat) (B : NN) (w : World) (hl : Bts l) (hll : l.length <= 640) (hK : ∀ i, i < 3 -> Bts (K i)) (hKl : ∀ i, (K i).length <= 640) (hlb : Bts label) (hlbl : label.length <= 1000) (hm : m <= 10) (hL : ∀ j, j < m -> L j <= 80)
  (hk : w.cell? ⟨kb, 0, none⟩ = some (.slice (some ⟨sb, 0, none⟩) 3 3)) (hs : ∀ i, i < 3 -> w.cell? ⟨sb, i, none⟩ = some (.string (strOfNums (K i)))) (hb : w.cell? ⟨lb, 0, none⟩ = some (.string (strOfNums label))) (hg : w.cell? ⟨gb, 1, none⟩ = some (.int .u64 Q)) (hB : ListsIn w bl m BA L C B) :
  Calls prog 127 #[.string (strOfNums l), .slice bl m cl, .pointer (some ⟨kb, 0, none⟩), .pointer (some ⟨lb, 0, none⟩), .pointer (some ⟨gb, 0, none⟩)] w fun e w' => e = .returned (.int .u64 (zaj label (askS l K B L) (m + 4) Q)) /\ Old w w' := by
 obtain ⟨S, hS⟩ : ∃ S : Nat -> List Int, S = fun i => if i < m + 4 then askS l K B L i else [] := ⟨_, rfl⟩
 have hSe : ∀ i, i < m + 4 -> S i = askS l K B L i := fun i hi => by rw [hS]; simp only; rw [if_pos hi]
 have HSb : Hid (∀ i, i < m + 4 -> Bts (S i)) := fun i hi => by
  rw [hSe i hi]
  unfold askS
  split
  ·exact hl
  ·split
   ·exact hK _ (by omega)
   ·exact zaV _ _
 have hlen : ∀ i, (S i).length <= 640 := fun i => by
  rw [hS]
  simp only
  split
  ·rename_i hi
   unfold askS
   split
   ·exact hll
   ·split
    ·exact hKl _
    ·rw [zar]; have := hL (i - 4) (by omega); omega
  ·simp
 have HNr : Hid (∀ j wx, j < m -> Old w wx -> Calls prog 126 #[.slice (BA j) (L j) (C j)] wx fun e w' => e = .returned (.string (strOfNums (S (j + 4)))) /\ Old wx w') := fun j wx hj ho => (zcw (BA j) (L j) (C j) (B j) wx (by have := hL j hj; omega) ((hB.facs hj).old ho)).mono fun e w' ⟨h, k⟩ => ⟨by rw [h, hSe _ (by omega)]; unfold askS; rw [if_neg (by omega), if_neg (by omega), show j + 4 - 4 = j by omega], k⟩
 have HNu : Hid (∀ b c wx, StrsIn wx b (m + 4) S -> Calls prog 128 #[.string (strOfNums label), .slice b (m + 4) c, .int .u64 Q] wx fun e w' => e = .returned (.int .u64 (zaj label (askS l K B L) (m + 4) Q)) /\ Old wx w') := fun b c wx hst => (zey label b (m + 4) c S Q wx hlb hst (by omega) (by have := numL_le (label := label) hlen (m + 4); omega)).mono fun e w' ⟨h, k⟩ => ⟨by rw [h, zbg hSe], k⟩
 have HT : Hid (∀ w', Old w w' -> w'.cell? ⟨kb, 0, none⟩ = some (.slice (some ⟨sb, 0, none⟩) 3 3) /\ w'.cell? ⟨lb, 0, none⟩ = some (.string (strOfNums label)) /\ w'.cell? ⟨gb, 1, none⟩ = some (.int .u64 Q)) := fun w' ho => ⟨ho.cellOf hk, ho.cellOf hb, ho.cellOf hg⟩
 have HK : Hid (∀ w' i, i < 3 -> Old w w' -> w'.cell? ⟨sb, i, none⟩ = some (.string (strOfNums (S (i + 1))))) := fun w' i hi ho => by
  rw [hSe (i + 1) (by omega)]
  unfold askS
  rw [if_neg (by omega), if_pos (by omega)]
  exact ho.cellOf (hs i hi)
 have HB : Hid (ListsIn w bl m BA L C B) := hB
 have hS0 : l = S 0 := by rw [hSe 0 (by omega)]; rfl
 generalize zaj label (askS l K B L) (m + 4) Q = R at *
 rw [hS0]
 clear hS hSe hlen hl hll hK hKl hlb hlbl hL hk hs hb hg hB hS0
 obtain ⟨i0, hi0, hz0, hz1, hz2⟩ := info_parts strinfo
 go_enter func127, ntmps127
 obtain ⟨d0, d1, d2⟩ := HT.out _ (Old.refl _)
 obtain ⟨z0, z1, z2⟩ := HT.out _ ((Old.refl w).alloc (.cells #[.string (strOfNums (S 0))] 9))
 go_wp2_with (at_builtin; refine wpList_append_own _ rfl _ _ 143 rfl w.heap.size 9 i0 (.string ⟨#[]⟩) 1 16 underlying143 hi0 hz0 hz1 hz2 rfl (by decide) _ _ _ rfl (strs_one w w.heap.size S (Nat.le_refl _)) ⟨sb, 0, none⟩ 3 3 [.string (strOfNums (S 1)), .string (strOfNums (S 2)), .string (strOfNums (S 3))] rfl rfl ?c1 ?c2 ?c3 ?c4 ?c5 ?_)
 case c1 =>
  have h := fun i hi => HK.out (w.alloc (.cells #[.string (strOfNums (S 0))] 9)) i hi ((Old.refl w).alloc _)
  intro j u hu
  match j, hu with
  | 0, hu => simp at hu; subst hu; exact h 0 (by omega)
  | 1, hu => simp at hu; subst hu; exact h 1 (by omega)
  | 2, hu => simp at hu; subst hu; exact h 2 (by omega)
  | j + 3, hu => simp at hu
 case c2 => intro u hu; simp at hu; rcases hu with rfl | rfl | rfl <;> rfl
 case c3 => unfold maxLen; omega
 case c4 => omega
 case c5 => simp
 intro v' w2 hown' hgrow _
 have HO2 : Hid (Old w w2) := ((Old.refl w).alloc _).grown hgrow fun b hb => by simp [Value.ownBlock] at hb; omega
 have HP2 : Hid (w2.ownsRow w.heap.size 9 1 v' (0 + 4) (zag S (0 + 4))) := by
  unfold Hid
  rw [Nat.zero_add, cells_four S]
  exact hown'
 clear hown' hgrow d0 d1 d2 z0 z1
 go_upto_region 3 with fail
 go_loopw [8, 17] (fun pv iv wx => ∃ i : Nat, iv = .int .i64 (i : Int) /\ i <= m /\ Hid (wx.ownsRow w.heap.size 9 1 pv (i + 4) (zag S (i + 4))) /\ Hid (Old w wx)) (fun _ iv _ => m - (intOf iv).toNat)
 case atStart => exact ⟨0, rfl, Nat.zero_le _, HP2, HO2⟩
 case round =>
  obtain ⟨i, rfl, hi, HP, HW⟩ := hrel
  by_cases hlt : i < m
  ·rcases HB.out with h0 | ⟨bx, ox, hqx, _, hrx⟩
   ·omega
   have cx := HW.out.cellOf (hrx i hlt).1
   clear hrx
   subst hqx
   have HC : Hid (Calls prog 126 #[.slice (BA i) (L i) (C i)] wr fun e w' => e = .returned (.string (strOfNums (S (i + 4)))) /\ Old wr w') := HNr.out i wr hlt HW.out
   generalize hsi : S (i + 4) = Si at *
   have HSi : Hid (S (i + 4) = Si) := hsi
   clear hsi
   go_wp2_with (first
    | (go_at_call 126; refine HC.out.mono ?_; rintro e w1 ⟨rfl, o1⟩; have hs1 := (HW.out.trans o1).size)
    | (at_builtin; refine wpList_append_own _ rfl _ _ 143 rfl w.heap.size 9 i0 (.string ⟨#[]⟩) 1 16 underlying143 hi0 hz0 hz1 hz2 rfl (by decide) _ _ _ rfl ((zbu HP.out o1).alloc _) ⟨w1.heap.size, 0, none⟩ 1 1 [.string (strOfNums Si)] rfl rfl ?c1 ?c2 ?c3 ?c4 ?c5 ?_))
   case c1 => exact cell_one_new _ _ _
   case c2 => intro u hu; simp at hu; subst hu; rfl
   case c3 => unfold maxLen; omega
   case c4 => omega
   case c5 => simp; omega
   intro v' w2 hown' hgrow _
   have ho2 : Hid (Old w w2) := zcj (HW.out.trans o1) (zbu HP.out o1) hgrow
   have hw2 : Hid (w2.ownsRow w.heap.size 9 1 v' (i + 1 + 4) (zag S (i + 1 + 4))) := by
    have e : zag S (i + 1 + 4) = zag S (i + 4) ++ [.string (strOfNums Si)] := by rw [<- HSi.out]; exact zbD S (i + 4)
    unfold Hid
    rw [e]
    exact hown'
   clear hown' hgrow
   go_wp2_with fail
   go_roundw
   case rel => exact ⟨i + 1, by first | exact zab i | exact zdk i, by omega, hw2, ho2⟩
   case measure => simp [intOf]; omega
  ·have he : m = i := by omega
   subst he
   obtain ⟨ba, bc, rfl, _, hst⟩ := own_strs HP.out HSb.out
   have HN : Hid (Calls prog 128 #[.string (strOfNums label), .slice ba (m + 4) bc, .int .u64 Q] wr fun e w' => e = .returned (.int .u64 R) /\ Old wr w') := HNu.out ba bc wr hst
   obtain ⟨d0, d1, d2⟩ := HT.out _ HW.out
   clear hst HP HP2 HO2
   go_wp2_with (go_at_call 128; refine HN.out.mono ?_; rintro e w3 ⟨rfl, o3⟩)
   go_ret
   exact ⟨rfl, HW.out.trans o3⟩
end
section
open Go.RowKit
def fiv8 (P Q G H y : Int) : Nat -> Int | 0 => P | 1 => Q | 2 => G | 3 => H | _ => y
theorem facs_fiv8 (w : World) (P Q G H y : Int) (t : TypeId) (h4 : Four P Q G H) (hy : U64 y) : FacsIn (w.alloc (.cells #[.int .u64 P, .int .u64 Q, .int .u64 G, .int .u64 H, .int .u64 y] t)) (some ⟨w.heap.size, 0, none⟩) 5 (fiv8 P Q G H y) := by
 refine Or.inr ⟨_, _, rfl, by simp, fun j hj => ?_⟩
 match j, hj with
 | 0, _ => exact ⟨(World.cell?_alloc_mark w _ t (0, 0) 0).trans rfl, h4.p0, h4.p1⟩
 | 1, _ => exact ⟨(World.cell?_alloc_mark w _ t (0, 0) 1).trans rfl, h4.q0, h4.q1⟩
 | 2, _ => exact ⟨(World.cell?_alloc_mark w _ t (0, 0) 2).trans rfl, h4.g0, h4.g1⟩
 | 3, _ => exact ⟨(World.cell?_alloc_mark w _ t (0, 0) 3).trans rfl, h4.h0, h4.h1⟩
 | 4, _ => exact ⟨(World.cell?_alloc_mark w _ t (0, 0) 4).trans rfl, hy.1, hy.2⟩
def knwS (P Q G H y : Int) (l : Nat) (C : NN) (no : Nat) (O : NN) : Nat -> List Int
 | 0 => packL (fiv8 P Q G H y) 5
 | 1 => packL (flatF C) (6 * l)
 | 2 => packL (flatF O) (6 * no)
 | _ => []
theorem knwS_bd (P Q G H y : Int) (l : Nat) (C : NN) (no : Nat) (O : NN) : ∀ i, i < 3 -> Bts (knwS P Q G H y l C no O i)
 | 0, _ => zaV _ _
 | 1, _ => zaV _ _
 | 2, _ => zaV _ _
theorem knwS_len (P Q G H y : Int) {l : Nat} (C : NN) {no : Nat} (O : NN) (hl : l <= 8) (hn : no <= 8) : ∀ i, (knwS P Q G H y l C no O i).length <= 640
 | 0 => by show (packL _ _).length <= _; rw [zar]; omega
 | 1 => by show (packL _ _).length <= _; rw [zar]; omega
 | 2 => by show (packL _ _).length <= _; rw [zar]; omega
 | _ + 3 => by show ([] : List Int).length <= _; simp
structure AskIn (w : World) (kb sb lb gb : Nat) (K : Nat -> List Int) (label : List Int) (Q : Int) : Prop where
 k : w.cell? ⟨kb, 0, none⟩ = some (.slice (some ⟨sb, 0, none⟩) 3 3)
 s : ∀ i, i < 3 -> w.cell? ⟨sb, i, none⟩ = some (.string (strOfNums (K i)))
 l : w.cell? ⟨lb, 0, none⟩ = some (.string (strOfNums label))
 g : w.cell? ⟨gb, 1, none⟩ = some (.int .u64 Q)
theorem AskIn.old {w w' : World} {kb sb lb gb : Nat} {K : Nat -> List Int} {label : List Int} {Q : Int} (h : AskIn w kb sb lb gb K label Q) (ho : Old w w') : AskIn w' kb sb lb gb K label Q := ⟨ho.cellOf h.k, fun i hi => ho.cellOf (h.s i hi), ho.cellOf h.l, ho.cellOf h.g⟩
def askV (kb lb gb : Nat) : Value := .func (.func 127) #[] #[.pointer (some ⟨kb, 0, none⟩), .pointer (some ⟨lb, 0, none⟩), .pointer (some ⟨gb, 0, none⟩)]
theorem zeO (P Q G H : Int) (a : OA) (m cap : Nat) (label : List Int) (y : Int) (bi : OA) (l ci : Nat) (C : NN) (bo : OA) (no co : Nat) (O : NN) (w : World) (h4 : Four P Q G H) (hy : U64 y) (hl : l <= 100) (hno : no <= 100) (hC : BoxsIn w bi l C) (hO : BoxsIn w bo no O) :
  Calls prog 89 #[gv P Q G H a m cap, .string (strOfNums label), .int .u64 y, .slice bi l ci, .slice bo no co] w fun e w' => Old w w' /\ ∃ kb sb lb gb, e = .returned (askV kb lb gb) /\ AskIn w' kb sb lb gb (knwS P Q G H y l C no O) label Q := by
 have HZ := lain2 w (gc P Q G H a m cap) #[.string (strOfNums label)] 25 9
 have HT0 : ∀ w', Old ((w.alloc (.cells (gc P Q G H a m cap) 25)).alloc (.cells #[.string (strOfNums label)] 9)) w' -> w'.cell? ⟨w.heap.size, 0, none⟩ = some (.int .u64 P) /\ w'.cell? ⟨w.heap.size, 1, none⟩ = some (.int .u64 Q) /\ w'.cell? ⟨w.heap.size, 2, none⟩ = some (.int .u64 G) /\ w'.cell? ⟨w.heap.size, 3, none⟩ = some (.int .u64 H) /\ w'.cell? ⟨w.heap.size + 1, 0, none⟩ = some (.string (strOfNums label)) := fun w' ho => by
  have h := HZ.then ho
  exact ⟨h.cell 0 0 (by simp) rfl, h.cell 0 1 (by simp) rfl, h.cell 0 2 (by simp) rfl, h.cell 0 3 (by simp) rfl, h.cell 1 0 (by simp) rfl⟩
 have HW0 : Hid (Old w ((w.alloc (.cells (gc P Q G H a m cap) 25)).alloc (.cells #[.string (strOfNums label)] 9))) := HZ.old
 obtain ⟨S, hS⟩ : ∃ S, S = knwS P Q G H y l C no O := ⟨_, rfl⟩
 have HA : Hid (∀ (wx wy : World) (t : TypeId), Old (wx.alloc (.cells #[.int .u64 P, .int .u64 Q, .int .u64 G, .int .u64 H, .int .u64 y] t)) wy -> Calls prog 126 #[.slice (some ⟨wx.heap.size, 0, none⟩) 5 5] wy (Ret wy (.string (strOfNums (S 0))))) := fun wx wy t ho => by rw [hS]; exact zcw _ 5 5 (fiv8 P Q G H y) wy (by omega) ((facs_fiv8 wx P Q G H y t h4 hy).old ho)
 have HN1 : Hid (∀ wx, Old w wx -> Calls prog 104 #[.slice bi l ci] wx fun e w' => Old wx w' /\ ∃ b c, e = .returned (.slice b (6 * l) c) /\ FacsIn w' b (6 * l) (flatF C)) := fun wx ho => (zcn bi l ci C wx (by omega) (hC.old ho)).mono fun e w' ⟨k, v, he, hN⟩ => by
  obtain ⟨b, c, rfl, _, hf⟩ := hN.facs (flat_u64 hC)
  exact ⟨k, b, c, he, hf⟩
 have HN2 : Hid (∀ wx, Old w wx -> Calls prog 104 #[.slice bo no co] wx fun e w' => Old wx w' /\ ∃ b c, e = .returned (.slice b (6 * no) c) /\ FacsIn w' b (6 * no) (flatF O)) := fun wx ho => (zcn bo no co O wx (by omega) (hO.old ho)).mono fun e w' ⟨k, v, he, hN⟩ => by
  obtain ⟨b, c, rfl, _, hf⟩ := hN.facs (flat_u64 hO)
  exact ⟨k, b, c, he, hf⟩
 have HB1 : Hid (∀ wx b c, FacsIn wx b (6 * l) (flatF C) -> Calls prog 126 #[.slice b (6 * l) c] wx (Ret wx (.string (strOfNums (S 1))))) := fun wx b c hf => by rw [hS]; exact zcw b (6 * l) c (flatF C) wx (by omega) hf
 have HB2 : Hid (∀ wx b c, FacsIn wx b (6 * no) (flatF O) -> Calls prog 126 #[.slice b (6 * no) c] wx (Ret wx (.string (strOfNums (S 2))))) := fun wx b c hf => by rw [hS]; exact zcw b (6 * no) c (flatF O) wx (by omega) hf
 rw [<- hS]
 clear HZ hS h4 hy hl hno hC hO
 go_enter func89, ntmps89
 go_upto_region 1 with fail
 generalize (w.alloc (.cells (gc P Q G H a m cap) 25)).alloc (.cells #[.string (strOfNums label)] 9) = W at *
 generalize w.heap.size = gb at *
 have HT : Hid (∀ w', Old W w' -> w'.cell? ⟨gb, 0, none⟩ = some (.int .u64 P) /\ w'.cell? ⟨gb, 1, none⟩ = some (.int .u64 Q) /\ w'.cell? ⟨gb, 2, none⟩ = some (.int .u64 G) /\ w'.cell? ⟨gb, 3, none⟩ = some (.int .u64 H) /\ w'.cell? ⟨gb + 1, 0, none⟩ = some (.string (strOfNums label))) := HT0
 clear HT0
 obtain ⟨x0, x1, x2, x3, x4⟩ := HT.out _ (Old.refl _)
 have hmf : ∀ (fn : Fn) (first cap : Array Value) (w : World), (Instr.makeFunc fn first cap).run prog w = .ok (.func fn first cap) w := fun _ _ _ _ => rfl
 have HWl : Hid (Old W (W.alloc (.cells #[.int .u64 P, .int .u64 Q, .int .u64 G, .int .u64 H, .int .u64 y] 22))) := (Old.refl _).alloc _
 go_upto_region 2 with (first
  | (have hg := hN2; clear hg; go_at_call 126; refine (HB2.out _ _ _ hf2).mono ?_; rintro e w5 ⟨rfl, o5⟩; have h5 : Hid (Old W w5) := hN2.out.trans o5)
  | (have hg := hA2; clear hg; go_at_call 104; refine (HN2.out _ (HW0.out.trans hA2.out)).mono ?_; rintro e w4 ⟨o4, b2, c2, rfl, hf2⟩; have hN2 : Hid (Old W w4) := hA2.out.trans o4)
  | (have hg := hN1; clear hg; go_at_call 126; refine (HB1.out _ _ _ hf1).mono ?_; rintro e w3 ⟨rfl, o3⟩; have hA2 : Hid (Old W w3) := hN1.out.trans o3)
  | (have hg := hA1; clear hg; go_at_call 104; refine (HN1.out _ (HW0.out.trans hA1.out)).mono ?_; rintro e w2 ⟨o2, b1, c1, rfl, hf1⟩; have hN1 : Hid (Old W w2) := hA1.out.trans o2)
  | (go_at_call 126; refine (HA.out _ _ _ (Old.refl _)).mono ?_; rintro e w1 ⟨rfl, o1⟩; have hA1 : Hid (Old W w1) := HWl.out.trans o1))
 have HR1 : ((w5.alloc (.cells #[.string (strOfNums (S 0)), .string (strOfNums (S 1)), .string (strOfNums (S 2))] 9)).alloc (.cells #[.slice (some ⟨w5.heap.size, 0, none⟩) 3 3] 143)).heap[w5.heap.size]? = some (.cells #[.string (strOfNums (S 0)), .string (strOfNums (S 1)), .string (strOfNums (S 2))] 9 (0, 0)) := (((Old.refl _).alloc _).block _ (by simp)).trans (heap_alloc_last _ _)
 have HR2 : ((w5.alloc (.cells #[.string (strOfNums (S 0)), .string (strOfNums (S 1)), .string (strOfNums (S 2))] 9)).alloc (.cells #[.slice (some ⟨w5.heap.size, 0, none⟩) 3 3] 143)).heap[w5.heap.size + 1]? = some (.cells #[.slice (some ⟨w5.heap.size, 0, none⟩) 3 3] 143 (0, 0)) := by
  have := heap_alloc_last (w5.alloc (.cells #[.string (strOfNums (S 0)), .string (strOfNums (S 1)), .string (strOfNums (S 2))] 9)) (.cells #[.slice (some ⟨w5.heap.size, 0, none⟩) 3 3] 143)
  rwa [show (w5.alloc (.cells #[.string (strOfNums (S 0)), .string (strOfNums (S 1)), .string (strOfNums (S 2))] 9)).heap.size = w5.heap.size + 1 by simp] at this
 have HO6 : Old W ((w5.alloc (.cells #[.string (strOfNums (S 0)), .string (strOfNums (S 1)), .string (strOfNums (S 2))] 9)).alloc (.cells #[.slice (some ⟨w5.heap.size, 0, none⟩) 3 3] 143)) := (h5.out.alloc _).alloc _
 have HE : Hid (Old w ((w5.alloc (.cells #[.string (strOfNums (S 0)), .string (strOfNums (S 1)), .string (strOfNums (S 2))] 9)).alloc (.cells #[.slice (some ⟨w5.heap.size, 0, none⟩) 3 3] 143)) /\ AskIn ((w5.alloc (.cells #[.string (strOfNums (S 0)), .string (strOfNums (S 1)), .string (strOfNums (S 2))] 9)).alloc (.cells #[.slice (some ⟨w5.heap.size, 0, none⟩) 3 3] 143)) (w5.heap.size + 1) w5.heap.size (gb + 1) gb S label Q) := by
  obtain ⟨y0, y1, y2, y3, y4⟩ := HT.out _ HO6
  refine ⟨HW0.out.trans HO6, (cell_of_row _ _ 0 _ _ (0, 0) HR2).trans rfl, fun i hi => ?_, y4, y1⟩
  rw [cell_of_row _ _ i _ _ (0, 0) HR1]
  match i, hi with
  | 0, _ => rfl
  | 1, _ => rfl
  | 2, _ => rfl
 clear HR1 HR2 HO6
 go_wp2_with fail
 go_ret
 exact ⟨HE.out.1, _, _, _, _, rfl, HE.out.2⟩
end
section
open Go Go.RowKit
def zdY (E : List Ent) (i : Nat) : Bool := (List.range E.length).all fun k => decide (k = i) || (match E[k]? with | some (.k _) => true | _ => false)
theorem zdp {E : List Ent} {R : World -> Prop} {e : Ent} {wx w' : World} {i : Nat} (hk : zdY E i = true) (hE : E[i]? = some e) (h : R w') (he : ∀ v, e.ok v w') : ResT E R e wx undef w' := by
 refine ⟨h, fun k x hx => ?_, he _⟩
 unfold okAt at hx ⊢
 by_cases hki : k = i
 ·subst hki; rw [hE]; exact he x
 ·cases hEk : E[k]? with
  | none => trivial
  | some e' =>
   rw [hEk] at hx
   have hlt : k < E.length := (List.getElem?_eq_some_iff.1 hEk).1
   have := List.all_eq_true.1 hk k (List.mem_range.2 hlt)
   rw [hEk] at this
   cases e' with
   | k v => exact hx
   | u F hF => simp [hki] at this
def setR (Bs : NN) (r p : Nat) (x : Int) : Nat -> Nat -> Int := fun j => if j = r then (fun q => if q = p then x else Bs r q) else Bs j
def LayB (W : World) (s n : Nat) (Ks : List (Nat × Obj)) (T : NI) (Bs : NN) (k : Nat) (bl : List (Nat × Nat)) (wx : World) : Prop :=
 ∃ v u bk, (∀ e, e ∈ bl -> e.1 < k /\ bk e.1 = e.2) /\ LayS W s n Ks T Bs k v u bk wx
section
variable {W w w' : World} {s n : Nat} {Ks : List (Nat × Obj)} {T : NI} {Bs : NN} {k : Nat} {bl : List (Nat × Nat)}
theorem LayB.old' (h : LayB W s n Ks T Bs k bl w) (ho : Old w w') : LayB W s n Ks T Bs k bl w' := let ⟨v, u, bk, hb, h⟩ := h; ⟨v, u, bk, hb, h.old' ho⟩
theorem LayB.congr {Bs' : NN} (h : LayB W s n Ks T Bs k bl w) (he : ∀ j, j < k -> ∀ q, q < 7 * n + 3 -> Bs j q = Bs' j q) : LayB W s n Ks T Bs' k bl w := let ⟨v, u, bk, hb, h⟩ := h; ⟨v, u, bk, hb, h.congr he⟩
theorem LayB.less {Ks' : List (Nat × Obj)} (h : LayB W s n Ks T Bs k bl w) (he : ∀ e, e ∈ Ks' -> e ∈ Ks) : LayB W s n Ks' T Bs k bl w := let ⟨v, u, bk, hb, h⟩ := h; ⟨v, u, bk, hb, h.less he⟩
theorem LayB.more (h : LayB W s n Ks T Bs k bl w) (o : Obj) : LayB W s n ((w.heap.size, o) :: Ks) T Bs k bl (w.alloc o) := let ⟨v, u, bk, hb, h⟩ := h; ⟨v, u, bk, hb, h.more o⟩
theorem LayB.drop {bl' : List (Nat × Nat)} (h : LayB W s n Ks T Bs k bl w) (he : ∀ e, e ∈ bl' -> e ∈ bl) : LayB W s n Ks T Bs k bl' w := let ⟨v, u, bk, hb, h⟩ := h; ⟨v, u, bk, fun e hm => hb e (he e hm), h⟩
theorem LayB.old (h : LayB W s n Ks T Bs k bl w) : Old W w := let ⟨_, _, _, _, h⟩ := h; h.ly.old
theorem LayB.prot (h : LayB W s n Ks T Bs k bl w) {b : Nat} {o : Obj} (he : (b, o) ∈ Ks) : w.heap[b]? = some o := let ⟨_, _, _, _, h⟩ := h; (h.ly.prot _ he).1
theorem LayB.row (h : LayB W s n Ks T Bs k bl w) : ∃ v u, w.heap[s]? = some (.cells #[.int .i64 (n : Int), v, u] 109 (0, 0)) := let ⟨v, u, _, _, h⟩ := h; ⟨v, u, h.row⟩
theorem LayB.full (h : LayB W s n Ks T Bs k bl w) {r b : Nat} (he : (r, b) ∈ bl) : Full w b (7 * n + 3) (Bs r) := by
 obtain ⟨v, u, bk, hb, h⟩ := h
 obtain ⟨h1, h2⟩ := hb _ he
 have := (h.ly.full r h1).2
 rwa [h2] at this
theorem LayB.cell (h : LayB W s n Ks T Bs k bl w) {r b : Nat} (he : (r, b) ∈ bl) (p : Nat) (x : Int) : LayB W s n Ks T (setR Bs r p x) k bl (w.setCell ⟨b, p, none⟩ (.int .u64 x)) := by
 obtain ⟨v, u, bk, hb, h⟩ := h
 obtain ⟨h1, h2⟩ := hb _ he
 have h2' : bk r = b := h2
 have := h.cell (p := p) h1 x
 rw [h2] at this
 exact ⟨v, u, bk, hb, this⟩
end
theorem ladd8 (W : World) (s n : Nat) (Ks : List (Nat × Obj)) (T : NI) (B : NN) (k : Nat) (bl : List (Nat × Nat)) (x : Int) (w : World) (hn : n <= 8) (hk : k <= 100) (hx : T k = x) (h : LayB W s n Ks T B k bl w) :
  Calls prog 113 #[.pointer (some ⟨s, 0, none⟩), .int .u64 x] w fun e w' => ∃ b, e = .returned (.slice (some ⟨b, 0, none⟩) (7 * n + 3) (7 * n + 3)) /\ LayB W s n Ks T (ones8 B k) (k + 1) ((k, b) :: bl) w' := by
 obtain ⟨v, u, bk, hb, h⟩ := h
 refine (ladd_any W s n Ks T B k v u bk x w hn hk hx h).mono fun e w' ⟨v', u', b, he, hl⟩ => ⟨b, he, v', u', _, fun e hm => ?_, hl⟩
 rcases List.mem_cons.1 hm with rfl | hm
 ·exact ⟨Nat.lt_succ_self _, if_pos rfl⟩
 ·obtain ⟨h1, h2⟩ := hb e hm
  exact ⟨by omega, by rw [if_neg (by omega)]; exact h2⟩
def Lay1 (W : World) (s n : Nat) (Ks : List (Nat × Obj)) (T : NI) (R : NN) (k b p : Nat) (wx : World) : Prop := ∃ c, LayB W s n Ks T (setR (ones8 R k) k p c) (k + 1) [(k, b)] wx
section
variable {W w w' : World} {s n : Nat} {Ks : List (Nat × Obj)} {T : NI} {R : NN} {k b p : Nat}
theorem Lay1.old (w w' : World) (h : Lay1 W s n Ks T R k b p w) (ho : Old w w') : Lay1 W s n Ks T R k b p w' := let ⟨c, h⟩ := h; ⟨c, h.old' ho⟩
theorem Lay1.row (h : Lay1 W s n Ks T R k b p w) : ∃ v u, w.heap[s]? = some (.cells #[.int .i64 (n : Int), v, u] 109 (0, 0)) := let ⟨_, h⟩ := h; h.row
theorem Lay1.prot (h : Lay1 W s n Ks T R k b p w) {b' : Nat} {o : Obj} (he : (b', o) ∈ Ks) : w.heap[b']? = some o := let ⟨_, h⟩ := h; h.prot he
theorem Lay1.of (h : LayB W s n Ks T (ones8 R k) (k + 1) [(k, b)] w) : Lay1 W s n Ks T R k b p w := ⟨ones8 R k k p, h.congr fun j hj q _ => by
 unfold setR
 by_cases hjk : j = k
 ·subst hjk; rw [if_pos rfl]; by_cases hq : q = p
  ·subst hq; simp
  ·simp [hq]
 ·rw [if_neg hjk]⟩
def zcH (W : World) (s n : Nat) (Ks : List (Nat × Obj)) (T : NI) (R : NN) (k b p : Nat) (x : Int) : Ent := .u (fun _ w => LayB W s n Ks T (setR (ones8 R k) k p x) (k + 1) [(k, b)] w) fun _ _ _ h ho => h.old' ho
theorem Lay1.store (h : Lay1 W s n Ks T R k b p w) (x : Int) : LayB W s n Ks T (setR (ones8 R k) k p x) (k + 1) [(k, b)] (w.setCell ⟨b, p, none⟩ (.int .u64 x)) := by
 obtain ⟨c, h⟩ := h
 refine (h.cell List.mem_cons_self p x).congr fun j _ q _ => ?_
 unfold setR
 by_cases hjk : j = k
 ·subst hjk; simp only [if_true]; by_cases hq : q = p
  ·simp [hq]
  ·simp [hq]
 ·simp [hjk]
theorem Lay1.full (h : Lay1 W s n Ks T R k b p w) : ∃ F, Full w b (7 * n + 3) F := let ⟨_, h⟩ := h; ⟨_, h.full List.mem_cons_self⟩
theorem lay_stS {E : List Ent} {i : Nat} {x : Int} (hk : zdY E i = true) (hE : E[i]? = some (zcH W s n Ks T R k b p x)) (hp : p < 7 * n + 3) (wx : World) (h : Lay1 W s n Ks T R k b p wx) :
  (∃ o, wx.cell? ⟨b, p, none⟩ = some o) /\ wx.frozen? ⟨b, p, none⟩ = false /\ ResT E (Lay1 W s n Ks T R k b p) (zcH W s n Ks T R k b p x) wx undef (wx.setCell ⟨b, p, none⟩ (.int .u64 x)) := by
 obtain ⟨F, hF⟩ := h.full
 exact ⟨⟨_, hF.cell p hp⟩, hF.free p, zdp hk hE ⟨x, h.store x⟩ fun _ => h.store x⟩
theorem LayB.fin28 {x z : Int} {q : Nat} {bl : List (Nat × Nat)} (h : LayB W s n Ks T (setR (setR (ones8 R k) k p x) k q z) (k + 1) bl w) (hpq : p ≠ q) (hR : R k = row28 p x q z) : LayB W s n Ks T R (k + 1) [] w := by
 refine (h.drop (bl' := []) (by simp)).congr fun j hj r _ => ?_
 unfold setR ones8
 by_cases hjk : j = k
 ·subst hjk
  rw [hR]
  unfold row28
  simp only [if_true, Nat.lt_irrefl, if_false]
  by_cases h1 : r = q
  ·subst h1; simp [Ne.symm hpq]
  ·simp [h1]
 ·simp [hjk, show j < k by omega]
end
end
section
open Go.RowKit
theorem lcom_any (W : World) (s n : Nat) (Ks : List (Nat × Obj)) (T : NI) (R : NN) (P Q G H : Int) (a : OA) (m cap : Nat) (ba : OA) (ca : Nat) (A : NI) (X : Int) (bb : OA) (cb : Nat) (B : NI) (Y Z : Int) (bp : OA) (np cp : Nat) (w : World) (h0n : 0 < n) (hn : n <= 8) (h4 : Four P Q G H) (hr : Righ P Q G) (hY : U64 Y) (hZ : U64 Z) (hA : FacsIn W ba n A) (hB : FacsIn W bb n B)
  (hT1 : ∀ i, i < n -> T i = A i) (hT2 : ∀ i, i < n -> T (n + i) = B i) (hT3 : ∀ i, i < n -> T (2 * n + i) = bigI P Q G (A i) (B i) Y Z)
  (hR1 : ∀ i, i < n -> R i = row28 i G (n + i) H) (hR2 : ∀ i, i < n -> R (n + i) = row28 (2 * n + i) G (3 * n + i) H) (hR3 : ∀ i, i < n -> R (2 * n + i) = row28 (4 * n + i) G (5 * n + i) H)
  (h : LayB W s n Ks T R 0 [] w) :
  Calls prog 81 #[.pointer (some ⟨s, 0, none⟩), gv P Q G H a m cap, tk ba n ca X bb n cb Y Z bp np cp] w fun e w' => e = .returned (.tuple #[]) /\ LayB W s n Ks T R (3 * n) [] w' := by
 have HJ := hid fun i wx (hi : i < n) (ho : Old W wx) => zcX P Q G H a m cap ba n ca A X bb n cb B Y Z bp np cp i wx h4 hr hY hZ (hA.old ho) (hB.old ho) hi hi
 rcases hA with h0 | ⟨ba, oa, rfl, hba, hra⟩
 ·omega
 rcases hB with h0 | ⟨bb, ob, rfl, hbb, hrb⟩
 ·omega
 have HL0 : Hid (LayB W s n ((w.heap.size + 1, .cells (tkc (some ⟨ba, oa, none⟩) n ca X (some ⟨bb, ob, none⟩) n cb Y Z bp np cp) 41 (0, 0)) :: (w.heap.size, .cells (gc P Q G H a m cap) 25 (0, 0)) :: Ks) T R 0 [] ((w.alloc (.cells (gc P Q G H a m cap) 25)).alloc (.cells (tkc (some ⟨ba, oa, none⟩) n ca X (some ⟨bb, ob, none⟩) n cb Y Z bp np cp) 41))) := by
  have := (h.more (.cells (gc P Q G H a m cap) 25 (0, 0))).more (.cells (tkc (some ⟨ba, oa, none⟩) n ca X (some ⟨bb, ob, none⟩) n cb Y Z bp np cp) 41 (0, 0))
  unfold Hid; simpa using this
 have HT1 := hid hT1
 have HT2 := hid hT2
 have HT3 := hid hT3
 have HR1 := hid hR1
 have HR2 := hid hR2
 have HR3 := hid hR3
 have HAc := hid fun i wx (hi : i < n) (ho : Old W wx) => ho.cellOf (hra i hi).1
 have HBc := hid fun i wx (hi : i < n) (ho : Old W wx) => ho.cellOf (hrb i hi).1
 clear h h4 hr hY hZ hra hrb hba hbb hT1 hT2 hT3 hR1 hR2 hR3
 obtain ⟨K2, hK2⟩ : ∃ K2, K2 = (w.heap.size + 1, .cells (tkc (some ⟨ba, oa, none⟩) n ca X (some ⟨bb, ob, none⟩) n cb Y Z bp np cp) 41 (0, 0)) :: (w.heap.size, .cells (gc P Q G H a m cap) 25 (0, 0)) :: Ks := ⟨_, rfl⟩
 rw [<- hK2] at HL0
 have HgK : Hid ((w.heap.size, .cells (gc P Q G H a m cap) 25 (0, 0)) ∈ K2) := by unfold Hid; rw [hK2]; simp
 have HtK : Hid ((w.heap.size + 1, .cells (tkc (some ⟨ba, oa, none⟩) n ca X (some ⟨bb, ob, none⟩) n cb Y Z bp np cp) 41 (0, 0)) ∈ K2) := by unfold Hid; rw [hK2]; simp
 have HKs : Hid (∀ e, e ∈ Ks -> e ∈ K2) := by unfold Hid; rw [hK2]; intro e he; simp [he]
 clear hK2
 go_enter func81, ntmps81
 go_upto_region 1 with fail
 generalize (w.alloc (.cells (gc P Q G H a m cap) 25)).alloc (.cells (tkc (some ⟨ba, oa, none⟩) n ca X (some ⟨bb, ob, none⟩) n cb Y Z bp np cp) 41) = W1 at *
 generalize w.heap.size = gb at *
 have c0 : W1.cell? ⟨gb + 1, 0, none⟩ = some (.slice (some ⟨ba, oa, none⟩) n ca) := cell_of_row _ _ 0 _ _ (0, 0) (HL0.out.prot HtK.out)
 go_upto_region 2 with fail
 clear c0
 go_loopw [17] (fun iv wx => ∃ i : Nat, iv = .int .i64 (i : Int) /\ i <= n /\ Hid (LayB W s n K2 T R (i) [] wx)) (fun iv _ => n - (intOf iv).toNat)
 case atStart => exact ⟨0, rfl, Nat.zero_le _, HL0⟩
 case round =>
  obtain ⟨i, rfl, hi, HL⟩ := hrel
  by_cases hlt : i < n
  ·have HTk : Hid (T (i) = A i) := HT1.out i hlt
   have HRk := hid (HR1.out i hlt)
   have cA := HAc.out i wr hlt HL.out.old
   go_upto_region 5 with (go_at_call 113; refine (ladd8 W s n K2 T R (i) [] (A i) _ hn (by omega) HTk.out HL.out).mono ?_; rintro e w1 ⟨b, rfl, hl⟩)
   have HA : Hid (LayB W s n K2 T (ones8 R (i)) (i + 1) [(i, b)] w1) := hl
   clear hl HL HTk
   obtain ⟨p, hp⟩ : ∃ p, p = i := ⟨_, rfl⟩
   obtain ⟨q, hq⟩ : ∃ q, q = n + i := ⟨_, rfl⟩
   have HM1 : Hid (∀ wx, Lay1 W s n K2 T R (i) b p wx -> Calls prog 114 #[.pointer (some ⟨s, 0, none⟩), .int .i64 (i : Int)] wx (Ret wx (.int .i64 (p : Int)))) := fun wx hR => by rw [hp]; exact lm_a s i wx
   have HM2 : Hid (∀ wx, Lay1 W s n K2 T R (i) b p wx -> Calls prog 115 #[.pointer (some ⟨s, 0, none⟩), .int .i64 (i : Int)] wx (Ret wx (.int .i64 (q : Int)))) := fun wx hR => (by obtain ⟨v, u, hrow⟩ := hR.row; rw [hq]; exact lm_r s n i v u wx hn (by omega) hrow)
   have hp8 : p < 7 * n + 3 := by omega
   have hq8 : q < 7 * n + 3 := by omega
   have hpq : p ≠ q := by omega
   have HRow : Hid (R (i) = row28 p G q H) := by unfold Hid; rw [hp, hq]; exact HRk.out
   have HGr := hid fun wx (hR : Lay1 W s n K2 T R (i) b p wx) => hR.prot HgK.out
   clear hp hq HRk
   refine zaa 14 [.k (.slice (some ⟨b, 0, none⟩) (7 * n + 3) (7 * n + 3)), .k (.pointer (some ⟨s, 0, none⟩)), .k (.int .i64 (i : Int)), .k (.int .i64 (p : Int)), .k (.slice (some ⟨b, 0, none⟩) (7 * n + 3) (7 * n + 3)), .k (.pointer (some ⟨s, 0, none⟩)), .k (.int .i64 (i : Int)), .k (.int .i64 (q : Int)), .k (.pointer (some ⟨gb, 2, none⟩)), .k (.int .u64 G), .k (.pointer (some ⟨gb, 3, none⟩)), .k (.int .u64 H), .k (.pointer (some ⟨b, p, none⟩)), zcH W s n K2 T R (i) b p G] (Lay1 W s n K2 T R (i) b p) (by kernel_rfl) (by kernel_rfl) rfl (Lay1.old _ _ (Lay1.of HA.out) (Old.refl _).drew) ?st ?_
   case st =>
    refine .c stp <| .c stp <| .c stp <| .c (stK Lay1.old func114 (fun wx hR => HM1.out wx hR)) <| .c stp <| .c stp <| .c stp <| .c (stK Lay1.old func115 (fun wx hR => HM2.out wx hR)) <| .c stp <| .c (stf 2 underlying22 HGr.out) <| .c stp <| .c (stf 3 underlying22 HGr.out) <| .c (sti0 (n := (7 * n + 3)) (c := (7 * n + 3)) hp8 underlying29) <| .c (stS (p := ⟨b, p, none⟩) (v := .int .u64 G) (fun _ => lay_stS (i := 13) rfl rfl hp8)) .n
   intro t wx hR hk
   simp only [fill, Ent.val, zcH, List.set_cons_zero, List.set_cons_succ, List.drop_succ_cons, List.drop_zero, List.drop_nil]
   have hl : LayB W s n K2 T (setR (ones8 R (i)) (i) p G) (i + 1) [(i, b)] wx := hk 13 (by omega)
   have q1 := (hl.full List.mem_cons_self).cell q hq8
   have f1 := (hl.full List.mem_cons_self).free q
   have HN := hid ((hl.cell List.mem_cons_self q H).fin28 hpq HRow.out)
   clear hl hk hR HA HM1 HM2 HGr HRow
   go_wp2_with fail
   go_roundw
   case rel => exact ⟨i + 1, zab i, by omega, HN⟩
   case measure => simp [intOf]; omega
  ·have he : n = i := by omega
   subst he
   have c2 : wr.cell? ⟨gb + 1, 2, none⟩ = some (.slice (some ⟨bb, ob, none⟩) n cb) := cell_of_row _ _ 2 _ _ (0, 0) (HL.out.prot HtK.out)
   have HLn := hid HL
   clear HL HL0
   go_upto_region 8 with fail
   clear c2
   go_loopw [43] (fun iv wx => ∃ i : Nat, iv = .int .i64 (i : Int) /\ i <= n /\ Hid (LayB W s n K2 T R (n + i) [] wx)) (fun iv _ => n - (intOf iv).toNat)
   case atStart => exact ⟨0, rfl, Nat.zero_le _, HLn⟩
   case round =>
    obtain ⟨i, rfl, hi, HL⟩ := hrel
    by_cases hlt : i < n
    ·have HTk : Hid (T (n + i) = B i) := HT2.out i hlt
     have HRk := hid (HR2.out i hlt)
     have cB := HBc.out i wr hlt HL.out.old
     go_upto_region 11 with (go_at_call 113; refine (ladd8 W s n K2 T R (n + i) [] (B i) _ hn (by omega) HTk.out HL.out).mono ?_; rintro e w1 ⟨b, rfl, hl⟩)
     have HA : Hid (LayB W s n K2 T (ones8 R (n + i)) (n + i + 1) [(n + i, b)] w1) := hl
     clear hl HL HTk
     obtain ⟨p, hp⟩ : ∃ p, p = 2 * n + i := ⟨_, rfl⟩
     obtain ⟨q, hq⟩ : ∃ q, q = 3 * n + i := ⟨_, rfl⟩
     have HM1 : Hid (∀ wx, Lay1 W s n K2 T R (n + i) b p wx -> Calls prog 116 #[.pointer (some ⟨s, 0, none⟩), .int .i64 (i : Int)] wx (Ret wx (.int .i64 (p : Int)))) := fun wx hR => (by obtain ⟨v, u, hrow⟩ := hR.row; rw [hp]; exact lm_b s n i v u wx hn (by omega) hrow)
     have HM2 : Hid (∀ wx, Lay1 W s n K2 T R (n + i) b p wx -> Calls prog 117 #[.pointer (some ⟨s, 0, none⟩), .int .i64 (i : Int)] wx (Ret wx (.int .i64 (q : Int)))) := fun wx hR => (by obtain ⟨v, u, hrow⟩ := hR.row; rw [hq]; exact lm_s s n i v u wx hn (by omega) hrow)
     have hp8 : p < 7 * n + 3 := by omega
     have hq8 : q < 7 * n + 3 := by omega
     have hpq : p ≠ q := by omega
     have HRow : Hid (R (n + i) = row28 p G q H) := by unfold Hid; rw [hp, hq]; exact HRk.out
     have HGr := hid fun wx (hR : Lay1 W s n K2 T R (n + i) b p wx) => hR.prot HgK.out
     clear hp hq HRk
     refine zaa 14 [.k (.slice (some ⟨b, 0, none⟩) (7 * n + 3) (7 * n + 3)), .k (.pointer (some ⟨s, 0, none⟩)), .k (.int .i64 (i : Int)), .k (.int .i64 (p : Int)), .k (.slice (some ⟨b, 0, none⟩) (7 * n + 3) (7 * n + 3)), .k (.pointer (some ⟨s, 0, none⟩)), .k (.int .i64 (i : Int)), .k (.int .i64 (q : Int)), .k (.pointer (some ⟨gb, 2, none⟩)), .k (.int .u64 G), .k (.pointer (some ⟨gb, 3, none⟩)), .k (.int .u64 H), .k (.pointer (some ⟨b, p, none⟩)), zcH W s n K2 T R (n + i) b p G] (Lay1 W s n K2 T R (n + i) b p) (by kernel_rfl) (by kernel_rfl) rfl (Lay1.old _ _ (Lay1.of HA.out) (Old.refl _).drew) ?st ?_
     case st =>
      refine .c stp <| .c stp <| .c stp <| .c (stK Lay1.old func116 (fun wx hR => HM1.out wx hR)) <| .c stp <| .c stp <| .c stp <| .c (stK Lay1.old func117 (fun wx hR => HM2.out wx hR)) <| .c stp <| .c (stf 2 underlying22 HGr.out) <| .c stp <| .c (stf 3 underlying22 HGr.out) <| .c (sti0 (n := (7 * n + 3)) (c := (7 * n + 3)) hp8 underlying29) <| .c (stS (p := ⟨b, p, none⟩) (v := .int .u64 G) (fun _ => lay_stS (i := 13) rfl rfl hp8)) .n
     intro t wx hR hk
     simp only [fill, Ent.val, zcH, List.set_cons_zero, List.set_cons_succ, List.drop_succ_cons, List.drop_zero, List.drop_nil]
     have hl : LayB W s n K2 T (setR (ones8 R (n + i)) (n + i) p G) (n + i + 1) [(n + i, b)] wx := hk 13 (by omega)
     have q1 := (hl.full List.mem_cons_self).cell q hq8
     have f1 := (hl.full List.mem_cons_self).free q
     have HN := hid ((hl.cell List.mem_cons_self q H).fin28 hpq HRow.out)
     clear hl hk hR HA HM1 HM2 HGr HRow
     go_wp2_with fail
     go_roundw
     case rel => exact ⟨i + 1, zab i, by omega, HN⟩
     case measure => simp [intOf]; omega
    ·have he : n = i := by omega
     subst he
     have HLm : Hid (LayB W s n K2 T R (2 * n + 0) [] wr) := by have := HL.out; rw [show n + n = 2 * n + 0 by omega] at this; exact this
     obtain ⟨v0, u0, hrow⟩ := HL.out.row
     have c3 : wr.cell? ⟨s, 0, none⟩ = some (.int .i64 (n : Int)) := cell_of_row _ _ 0 _ _ (0, 0) hrow
     clear HL HLn hrow
     go_upto_region 14 with fail
     clear c3
     go_loopw [70] (fun iv wx => ∃ i : Nat, iv = .int .i64 (i : Int) /\ i <= n /\ Hid (LayB W s n K2 T R (2 * n + i) [] wx)) (fun iv _ => n - (intOf iv).toNat)
     case atStart => exact ⟨0, rfl, Nat.zero_le _, HLm⟩
     case round =>
      obtain ⟨i, rfl, hi, HL⟩ := hrel
      by_cases hlt : i < n
      ·have HTk : Hid (T (2 * n + i) = bigI P Q G (A i) (B i) Y Z) := HT3.out i hlt
       have HRk := hid (HR3.out i hlt)
       have g0 := cell_of_row _ _ 0 _ _ (0, 0) (HL.out.prot HgK.out)
       have g1 := cell_of_row _ _ 1 _ _ (0, 0) (HL.out.prot HgK.out)
       have g2 := cell_of_row _ _ 2 _ _ (0, 0) (HL.out.prot HgK.out)
       have g3 := cell_of_row _ _ 3 _ _ (0, 0) (HL.out.prot HgK.out)
       have g4 := cell_of_row _ _ 4 _ _ (0, 0) (HL.out.prot HgK.out)
       have t0 := cell_of_row _ _ 0 _ _ (0, 0) (HL.out.prot HtK.out)
       have t1 := cell_of_row _ _ 1 _ _ (0, 0) (HL.out.prot HtK.out)
       have t2 := cell_of_row _ _ 2 _ _ (0, 0) (HL.out.prot HtK.out)
       have t3 := cell_of_row _ _ 3 _ _ (0, 0) (HL.out.prot HtK.out)
       have t4 := cell_of_row _ _ 4 _ _ (0, 0) (HL.out.prot HtK.out)
       have t5 := cell_of_row _ _ 5 _ _ (0, 0) (HL.out.prot HtK.out)
       go_upto_region 17 with (first | (go_at_call 63; refine (HJ.out i _ hlt HL.out.old).mono ?_; rintro e w0 ⟨rfl, o0⟩; have HLj : Hid (LayB W s n K2 T R (2 * n + i) [] w0) := HL.out.old' o0; clear g0 g1 g2 g3 g4 t0 t1 t2 t3 t4 t5) | (go_at_call 113; refine (ladd8 W s n K2 T R (2 * n + i) [] _ _ hn (by omega) HTk.out HLj.out).mono ?_; rintro e w1 ⟨b, rfl, hl⟩))
       have HA : Hid (LayB W s n K2 T (ones8 R (2 * n + i)) (2 * n + i + 1) [(2 * n + i, b)] w1) := hl
       clear hl HL HTk
       obtain ⟨p, hp⟩ : ∃ p, p = 4 * n + i := ⟨_, rfl⟩
       obtain ⟨q, hq⟩ : ∃ q, q = 5 * n + i := ⟨_, rfl⟩
       have HM1 : Hid (∀ wx, Lay1 W s n K2 T R (2 * n + i) b p wx -> Calls prog 118 #[.pointer (some ⟨s, 0, none⟩), .int .i64 (i : Int)] wx (Ret wx (.int .i64 (p : Int)))) := fun wx hR => (by obtain ⟨v, u, hrow⟩ := hR.row; rw [hp]; exact lm_d s n i v u wx hn (by omega) hrow)
       have HM2 : Hid (∀ wx, Lay1 W s n K2 T R (2 * n + i) b p wx -> Calls prog 119 #[.pointer (some ⟨s, 0, none⟩), .int .i64 (i : Int)] wx (Ret wx (.int .i64 (q : Int)))) := fun wx hR => (by obtain ⟨v, u, hrow⟩ := hR.row; rw [hq]; exact lm_u s n i v u wx hn (by omega) hrow)
       have hp8 : p < 7 * n + 3 := by omega
       have hq8 : q < 7 * n + 3 := by omega
       have hpq : p ≠ q := by omega
       have HRow : Hid (R (2 * n + i) = row28 p G q H) := by unfold Hid; rw [hp, hq]; exact HRk.out
       have HGr := hid fun wx (hR : Lay1 W s n K2 T R (2 * n + i) b p wx) => hR.prot HgK.out
       clear hp hq HRk
       refine zaa 14 [.k (.slice (some ⟨b, 0, none⟩) (7 * n + 3) (7 * n + 3)), .k (.pointer (some ⟨s, 0, none⟩)), .k (.int .i64 (i : Int)), .k (.int .i64 (p : Int)), .k (.slice (some ⟨b, 0, none⟩) (7 * n + 3) (7 * n + 3)), .k (.pointer (some ⟨s, 0, none⟩)), .k (.int .i64 (i : Int)), .k (.int .i64 (q : Int)), .k (.pointer (some ⟨gb, 2, none⟩)), .k (.int .u64 G), .k (.pointer (some ⟨gb, 3, none⟩)), .k (.int .u64 H), .k (.pointer (some ⟨b, p, none⟩)), zcH W s n K2 T R (2 * n + i) b p G] (Lay1 W s n K2 T R (2 * n + i) b p) (by kernel_rfl) (by kernel_rfl) rfl (Lay1.old _ _ (Lay1.of HA.out) (Old.refl _).drew) ?st ?_
       case st =>
        refine .c stp <| .c stp <| .c stp <| .c (stK Lay1.old func118 (fun wx hR => HM1.out wx hR)) <| .c stp <| .c stp <| .c stp <| .c (stK Lay1.old func119 (fun wx hR => HM2.out wx hR)) <| .c stp <| .c (stf 2 underlying22 HGr.out) <| .c stp <| .c (stf 3 underlying22 HGr.out) <| .c (sti0 (n := (7 * n + 3)) (c := (7 * n + 3)) hp8 underlying29) <| .c (stS (p := ⟨b, p, none⟩) (v := .int .u64 G) (fun _ => lay_stS (i := 13) rfl rfl hp8)) .n
       intro t wx hR hk
       simp only [fill, Ent.val, zcH, List.set_cons_zero, List.set_cons_succ, List.drop_succ_cons, List.drop_zero, List.drop_nil]
       have hl : LayB W s n K2 T (setR (ones8 R (2 * n + i)) (2 * n + i) p G) (2 * n + i + 1) [(2 * n + i, b)] wx := hk 13 (by omega)
       have q1 := (hl.full List.mem_cons_self).cell q hq8
       have f1 := (hl.full List.mem_cons_self).free q
       have HN := hid ((hl.cell List.mem_cons_self q H).fin28 hpq HRow.out)
       clear hl hk hR HA HM1 HM2 HGr HRow
       go_wp2_with fail
       go_roundw
       case rel => exact ⟨i + 1, zab i, by omega, HN⟩
       case measure => simp [intOf]; omega
      ·have he : n = i := by omega
       subst he
       have HE : Hid (LayB W s n Ks T R (3 * n) [] wr) := by have := HL.out.less HKs.out; rw [show 2 * n + n = 3 * n by omega] at this; exact this
       clear HL HLm
       go_wp2_with fail
       go_end0
       exact ⟨rfl, HE.out⟩
end
section
open Go.RowKit
theorem int_u64 (q : Nat) (h : q <= 1000) : Value.int .u64 (IntKind.u64.wrap (q : Int)) = .int .u64 (q : Int) := by
 rw [IntKind.wrap_u64]
 congr 1
 omega
theorem spf_any (P Q G H : Int) (a : OA) (n cap : Nat) (ba : OA) (na ca : Nat) (X : Int) (bb : OA) (nb cb : Nat) (Y Z : Int) (bp : OA) (np cp : Nat) (m : Nat) (w : World) (hm : m <= 100) (hX : U64 X) (hY : U64 Y) (hZ : U64 Z) :
  Calls prog 121 #[gv P Q G H a n cap, tk ba na ca X bb nb cb Y Z bp np cp, .int .i64 (m : Int)] w (Ret w (.int .u64 (prodI Q (kF Q X Y Z) m))) := by
 have HF : Hid (∀ i wx, i < m -> Calls prog 66 #[gv P Q G H a n cap, tk ba na ca X bb nb cb Y Z bp np cp, .int .u64 ((i + 1 : Nat) : Int)] wx (Ret wx (.int .u64 (kF Q X Y Z i)))) := fun i wx hi => zcU P Q G H a n cap ba na ca X bb nb cb Y Z bp np cp ((i + 1 : Nat) : Int) wx hX hY hZ ⟨by omega, by omega⟩
 have HFu : Hid (∀ i, U64 (kF Q X Y Z i)) := fun i => by unfold kF subI; exact ⟨(zem _ _ _).1, Int.le_trans (zem _ _ _).2 (by decide)⟩
 have HZ := lain2 w (gc P Q G H a n cap) (tkc ba na ca X bb nb cb Y Z bp np cp) 25 41
 have HG0 := fun w' ho => (HZ.then (W' := w') ho).row 0 (by simp)
 have HT0 := fun w' ho => (HZ.then (W' := w') ho).row 1 (by simp)
 have HW0 : Hid (Old w ((w.alloc (.cells (gc P Q G H a n cap) 25)).alloc (.cells (tkc ba na ca X bb nb cb Y Z bp np cp) 41))) := HZ.old
 clear HZ hX hY hZ
 go_enter func121, ntmps121
 go_upto_region 1 with fail
 generalize (w.alloc (.cells (gc P Q G H a n cap) 25)).alloc (.cells (tkc ba na ca X bb nb cb Y Z bp np cp) 41) = W at *
 have HG : Hid (∀ wx, Old W wx -> wx.heap[w.heap.size]? = some (.cells (gc P Q G H a n cap) 25 (0, 0))) := HG0
 have HT : Hid (∀ wx, Old W wx -> wx.heap[w.heap.size + 1]? = some (.cells (tkc ba na ca X bb nb cb Y Z bp np cp) 41 (0, 0))) := HT0
 clear HG0 HT0
 generalize w.heap.size = gb at *
 go_upto_region 3 with fail
 go_loopw [7, 8] (fun v iv wx => ∃ i : Nat, iv = .int .i64 ((i + 1 : Nat) : Int) /\ i <= m /\ v = .int .u64 (prodI Q (kF Q X Y Z) i) /\ Hid (Old W wx)) (fun _ iv _ => m + 1 - (intOf iv).toNat)
 case atStart => exact ⟨0, rfl, by omega, rfl, Old.refl _⟩
 case round =>
  obtain ⟨i, rfl, hi, rfl, HO⟩ := hrel
  by_cases hlt : i < m
  ·have hlt' : i + 1 <= m := hlt
   have HGr : Hid (∀ wx, Old wr wx -> wx.heap[gb]? = some (.cells (gc P Q G H a n cap) 25 (0, 0))) := fun wx hx => HG.out _ (HO.out.trans hx)
   have HTr : Hid (∀ wx, Old wr wx -> wx.heap[gb + 1]? = some (.cells (tkc ba na ca X bb nb cb Y Z bp np cp) 41 (0, 0))) := fun wx hx => HT.out _ (HO.out.trans hx)
   have HFi : Hid (∀ wx, Calls prog 66 #[gv P Q G H a n cap, tk ba na ca X bb nb cb Y Z bp np cp, .int .u64 ((i + 1 : Nat) : Int)] wx (Ret wx (.int .u64 (kF Q X Y Z i)))) := fun wx => HF.out i wx hlt
   have HPu : Hid (U64 (prodI Q (kF Q X Y Z) i)) := zaM _ _ _
   go_upto_region 5 with fail
   refine zaa 9 [.k (.int .u64 (prodI Q (kF Q X Y Z) i)), .k (gv P Q G H a n cap), .k (tk ba na ca X bb nb cb Y Z bp np cp), .k (.int .i64 ((i + 1 : Nat) : Int)), .k (.int .u64 ((i + 1 : Nat) : Int)), .k (.int .u64 (kF Q X Y Z i)), .k (.pointer (some ⟨gb, 1, none⟩)), .k (.int .u64 Q), .k (.int .u64 (mulI (prodI Q (kF Q X Y Z) i) (kF Q X Y Z i) Q))] (Old wr) (by kernel_rfl) (by kernel_rfl) rfl ((Old.refl _).drew) ?st ?_
   case st =>
    refine .c stp <| .c (sts underlying25 HGr.out) <| .c (sts underlying41 HTr.out) <| .c stp <| .c (stv (v' := .int .u64 (IntKind.u64.wrap ((i + 1 : Nat) : Int))) (int_u64 (i + 1) (by omega))) <| .c (stK old_R func66 (fun wx _ => HFi.out wx)) <| .c stp <| .c (stf 1 underlying22 HGr.out) <| .c (stK old_R func72 (fun wx _ => zdb _ _ Q HPu.out (HFu.out i) wx)) .n
   intro t wx hR hk
   simp only [fill, Ent.val, List.set_cons_zero, List.set_cons_succ, List.drop_succ_cons, List.drop_zero, List.drop_nil]
   have HN : Hid (Old W wx) := HO.out.trans hR
   clear hR hk HO HGr HTr HFi HPu
   go_wp2_with fail
   go_roundw
   case rel => exact ⟨i + 1, zab (i + 1), by omega, rfl, HN⟩
   case measure => simp [intOf]; omega
  ·have he : m = i := by omega
   subst he
   have HE : Hid (Old w wr) := HW0.out.trans HO.out
   go_wp2_with fail
   go_ret
   exact ⟨by rfl, HE.out⟩
end
section
open Go.RowKit
section
variable {W w w' : World} {s n : Nat} {Ks : List (Nat × Obj)} {T : NI} {R : NN} {k b p : Nat}
theorem Lay1.oldW (h : Lay1 W s n Ks T R k b p w) : Old W w := let ⟨_, h⟩ := h; h.old
theorem LayB.fin18 {x : Int} {bl : List (Nat × Nat)} (h : LayB W s n Ks T (setR (ones8 R k) k p x) (k + 1) bl w) (hR : R k = row18 p x) : LayB W s n Ks T R (k + 1) [] w := by
 refine (h.drop (bl' := []) (by simp)).congr fun j hj r _ => ?_
 unfold setR ones8
 by_cases hjk : j = k
 ·subst hjk
  rw [hR]
  unfold row18
  simp
 ·simp [hjk, show j < k by omega]
theorem zcz {Bs : NN} {bl : List (Nat × Nat)} (w w' : World) (h : LayB W s n Ks T Bs k bl w) (ho : Old w w') : LayB W s n Ks T Bs k bl w' := h.old' ho
end
theorem lprod_any (W : World) (s n : Nat) (Ks : List (Nat × Obj)) (T : NI) (R : NN) (P Q G H : Int) (a : OA) (m cap : Nat) (ba : OA) (na ca : Nat) (X : Int) (bb : OA) (nb cb : Nat) (Y Z : Int) (bp : OA) (cp : Nat) (Pp : NI) (w : World) (h0n : 0 < n) (hn : n <= 8) (h4 : Four P Q G H) (hr : Righ P Q G) (hX : U64 X) (hY : U64 Y) (hZ : U64 Z) (hP : FacsIn W bp n Pp)
  (hT1 : ∀ i, i + 1 < n -> T (3 * n + i) = Pp (i + 1)) (hT2 : T (3 * n + (n - 1)) = lastI P Q G X Y Z n (Pp (n - 1)))
  (hR1 : ∀ i, i + 1 < n -> R (3 * n + i) = row28 (4 * n + (i + 1)) (Pp i) (6 * n + i) H) (hR2 : R (3 * n + (n - 1)) = row18 (7 * n - 1) H)
  (h : LayB W s n Ks T R (3 * n) [] w) :
  Calls prog 82 #[.pointer (some ⟨s, 0, none⟩), gv P Q G H a m cap, tk ba na ca X bb nb cb Y Z bp n cp] w fun e w' => e = .returned (.tuple #[]) /\ LayB W s n Ks T R (4 * n) [] w' := by
 rcases hP with h0 | ⟨bp, op, rfl, hbp, hrp⟩
 ·omega
 obtain ⟨kk, hkk⟩ : ∃ kk, kk = prodI Q (kF Q X Y Z) n := ⟨_, rfl⟩
 have HK : Hid (∀ wx, Calls prog 121 #[gv P Q G H a m cap, tk ba na ca X bb nb cb Y Z (some ⟨bp, op, none⟩) n cp, .int .i64 (n : Int)] wx (Ret wx (.int .u64 kk))) := fun wx => by rw [hkk]; exact spf_any P Q G H a m cap ba na ca X bb nb cb Y Z (some ⟨bp, op, none⟩) n cp n wx (by omega) hX hY hZ
 have HKu : U64 kk := by rw [hkk]; exact zaM _ _ _
 obtain ⟨ek, hek⟩ : ∃ ek, ek = expI P Q G kk := ⟨_, rfl⟩
 have HE : Hid (∀ wx, Calls prog 65 #[gv P Q G H a m cap, .int .u64 G, .int .u64 kk] wx (Ret wx (.int .u64 ek))) := fun wx => by rw [hek]; exact za9 P Q G H G kk a m cap wx h4 hr h4.g0 h4.g1 HKu.1 HKu.2
 have HO : Hid (∀ wx, Calls prog 99 #[gv P Q G H a m cap, .int .u64 (Pp (n - 1)), .int .u64 ek] wx (Ret wx (.int .u64 (overI P (Pp (n - 1)) ek)))) := fun wx => gover_any P Q G H a m cap (Pp (n - 1)) ek wx h4 hr (hrp (n - 1) (by omega)).2 (by rw [hek]; exact hr.exp_in hr.gin)
 have HT2 : Hid (T (3 * n + (n - 1)) = overI P (Pp (n - 1)) ek) := by unfold Hid; rw [hT2, hek, hkk]; rfl
 have HL0 : Hid (LayB W s n ((w.heap.size + 1, .cells (tkc ba na ca X bb nb cb Y Z (some ⟨bp, op, none⟩) n cp) 41 (0, 0)) :: (w.heap.size, .cells (gc P Q G H a m cap) 25 (0, 0)) :: Ks) T R (3 * n) [] ((w.alloc (.cells (gc P Q G H a m cap) 25)).alloc (.cells (tkc ba na ca X bb nb cb Y Z (some ⟨bp, op, none⟩) n cp) 41))) := by
  have := (h.more (.cells (gc P Q G H a m cap) 25 (0, 0))).more (.cells (tkc ba na ca X bb nb cb Y Z (some ⟨bp, op, none⟩) n cp) 41 (0, 0))
  unfold Hid; simpa using this
 have HT1 : Hid (∀ i, i + 1 < n -> T (3 * n + i) = Pp (i + 1)) := hT1
 have HR1 : Hid (∀ i, i + 1 < n -> R (3 * n + i) = row28 (4 * n + (i + 1)) (Pp i) (6 * n + i) H) := hR1
 have HR2 : Hid (R (3 * n + (n - 1)) = row18 (7 * n - 1) H) := hR2
 have HPc : Hid (∀ i wx, i < n -> Old W wx -> wx.cell? ⟨bp, op + i, none⟩ = some (.int .u64 (Pp i))) := fun i wx hi ho => ho.cellOf (hrp i hi).1
 clear h h4 hr hX hY hZ hrp hbp hT1 hT2 hR1 hR2 hkk HKu hek
 obtain ⟨K2, hK2⟩ : ∃ K2, K2 = (w.heap.size + 1, .cells (tkc ba na ca X bb nb cb Y Z (some ⟨bp, op, none⟩) n cp) 41 (0, 0)) :: (w.heap.size, .cells (gc P Q G H a m cap) 25 (0, 0)) :: Ks := ⟨_, rfl⟩
 rw [<- hK2] at HL0
 have HgK : Hid ((w.heap.size, .cells (gc P Q G H a m cap) 25 (0, 0)) ∈ K2) := by unfold Hid; rw [hK2]; simp
 have HtK : Hid ((w.heap.size + 1, .cells (tkc ba na ca X bb nb cb Y Z (some ⟨bp, op, none⟩) n cp) 41 (0, 0)) ∈ K2) := by unfold Hid; rw [hK2]; simp
 have HKs : Hid (∀ e, e ∈ Ks -> e ∈ K2) := by unfold Hid; rw [hK2]; intro e he; simp [he]
 clear hK2
 go_enter func82, ntmps82
 go_upto_region 1 with fail
 generalize (w.alloc (.cells (gc P Q G H a m cap) 25)).alloc (.cells (tkc ba na ca X bb nb cb Y Z (some ⟨bp, op, none⟩) n cp) 41) = W1 at *
 generalize w.heap.size = gb at *
 go_upto_region 2 with fail
 go_loopw [6] (fun iv wx => ∃ i : Nat, iv = .int .i64 ((i + 1 : Nat) : Int) /\ i + 1 <= n /\ Hid (LayB W s n K2 T R (3 * n + i) [] wx)) (fun iv _ => n - (intOf iv).toNat)
 case atStart => exact ⟨0, rfl, h0n, HL0⟩
 case round =>
  obtain ⟨i, rfl, hi, HL⟩ := hrel
  obtain ⟨v0, u0, hrow⟩ := HL.out.row
  have cn : wr.cell? ⟨s, 0, none⟩ = some (.int .i64 (n : Int)) := cell_of_row _ _ 0 _ _ (0, 0) hrow
  clear hrow
  by_cases hlt : i + 1 < n
  ·have HTk : Hid (T (3 * n + i) = Pp (i + 1)) := HT1.out i hlt
   have HRk : Hid (R (3 * n + i) = row28 (4 * n + (i + 1)) (Pp i) (6 * n + i) H) := HR1.out i hlt
   have c5 : wr.cell? ⟨gb + 1, 5, none⟩ = some (.slice (some ⟨bp, op, none⟩) n cp) := cell_of_row _ _ 5 _ _ (0, 0) (HL.out.prot HtK.out)
   have cP := HPc.out (i + 1) wr hlt HL.out.old
   go_upto_region 5 with (go_at_call 113; refine (ladd8 W s n K2 T R (3 * n + i) [] (Pp (i + 1)) _ hn (by omega) HTk.out HL.out).mono ?_; rintro e w1 ⟨b, rfl, hl⟩)
   have HA : Hid (LayB W s n K2 T (ones8 R (3 * n + i)) (3 * n + i + 1) [(3 * n + i, b)] w1) := hl
   clear hl HL HTk cn c5 cP
   obtain ⟨p, hp⟩ : ∃ p, p = 4 * n + (i + 1) := ⟨_, rfl⟩
   obtain ⟨q, hq⟩ : ∃ q, q = 6 * n + i := ⟨_, rfl⟩
   have HM1 : Hid (∀ wx, Lay1 W s n K2 T R (3 * n + i) b p wx -> Calls prog 118 #[.pointer (some ⟨s, 0, none⟩), .int .i64 ((i + 1 : Nat) : Int)] wx (Ret wx (.int .i64 (p : Int)))) := fun wx hR => (by obtain ⟨v, u, hrow⟩ := hR.row; rw [hp]; exact lm_d s n (i + 1) v u wx hn (by omega) hrow)
   have HM2 : Hid (∀ wx, Lay1 W s n K2 T R (3 * n + i) b p wx -> Calls prog 120 #[.pointer (some ⟨s, 0, none⟩), .int .i64 (i : Int)] wx (Ret wx (.int .i64 (q : Int)))) := fun wx hR => (by obtain ⟨v, u, hrow⟩ := hR.row; rw [hq]; exact lm_t s n i v u wx hn (by omega) hrow)
   have hp8 : p < 7 * n + 3 := by omega
   have hq8 : q < 7 * n + 3 := by omega
   have hpq : p ≠ q := by omega
   have hin : i < n := by omega
   have hi1 : i + 1 <= 100 := by omega
   have HRow : Hid (R (3 * n + i) = row28 p (Pp i) q H) := by unfold Hid; rw [hp, hq]; exact HRk.out
   have HGr : Hid (∀ wx, Lay1 W s n K2 T R (3 * n + i) b p wx -> wx.heap[gb]? = some (.cells (gc P Q G H a m cap) 25 (0, 0))) := fun wx hR => hR.prot HgK.out
   have HTr : Hid (∀ wx, Lay1 W s n K2 T R (3 * n + i) b p wx -> wx.heap[gb + 1]? = some (.cells (tkc ba na ca X bb nb cb Y Z (some ⟨bp, op, none⟩) n cp) 41 (0, 0))) := fun wx hR => hR.prot HtK.out
   have HPr : Hid (∀ wx, Lay1 W s n K2 T R (3 * n + i) b p wx -> wx.cell? ⟨bp, op + i, none⟩ = some (.int .u64 (Pp i))) := fun wx hR => HPc.out i wx hin hR.oldW
   clear hp hq HRk
   refine zaa 19 [.k (.slice (some ⟨b, 0, none⟩) (7 * n + 3) (7 * n + 3)), .k (.pointer (some ⟨s, 0, none⟩)), .k (.int .i64 ((i + 1 : Nat) : Int)), .k (.int .i64 (p : Int)), .k (.slice (some ⟨b, 0, none⟩) (7 * n + 3) (7 * n + 3)), .k (.pointer (some ⟨s, 0, none⟩)), .k (.int .i64 ((i + 1 : Nat) : Int)), .k (.int .i64 (i : Int)), .k (.int .i64 (q : Int)), .k (.pointer (some ⟨gb + 1, 5, none⟩)), .k (.slice (some ⟨bp, op, none⟩) n cp), .k (.int .i64 ((i + 1 : Nat) : Int)), .k (.int .i64 (i : Int)), .k (.pointer (some ⟨bp, op + i, none⟩)), .k (.int .u64 (Pp i)), .k (.pointer (some ⟨gb, 3, none⟩)), .k (.int .u64 H), .k (.pointer (some ⟨b, p, none⟩)), zcH W s n K2 T R (3 * n + i) b p (Pp i)] (Lay1 W s n K2 T R (3 * n + i) b p) (by kernel_rfl) (by kernel_rfl) rfl (Lay1.old _ _ (Lay1.of HA.out) (Old.refl _).drew) ?st ?_
   case st =>
    refine .c stp <| .c stp <| .c stp <| .c (stK Lay1.old func118 (fun wx hR => HM1.out wx hR)) <| .c stp <| .c stp <| .c stp <| .c (stv (zdi i (by omega))) <| .c (stK Lay1.old func120 (fun wx hR => HM2.out wx hR)) <| .c stp <| .c (stf 5 underlying29 HTr.out) <| .c stp <| .c (stv (zdi i (by omega))) <| .c (sti (n := n) (c := cp) hin underlying29) <| .c (stl underlying22 HPr.out) <| .c stp <| .c (stf 3 underlying22 HGr.out) <| .c (sti0 (n := (7 * n + 3)) (c := (7 * n + 3)) hp8 underlying29) <| .c (stS (p := ⟨b, p, none⟩) (v := .int .u64 (Pp i)) (fun _ => lay_stS (i := 18) rfl rfl hp8)) .n
   intro t wx hR hk
   simp only [fill, Ent.val, zcH, List.set_cons_zero, List.set_cons_succ, List.drop_succ_cons, List.drop_zero, List.drop_nil]
   have hl : LayB W s n K2 T (setR (ones8 R (3 * n + i)) (3 * n + i) p (Pp i)) (3 * n + i + 1) [(3 * n + i, b)] wx := hk 18 (by omega)
   have q1 := (hl.full List.mem_cons_self).cell q hq8
   have f1 := (hl.full List.mem_cons_self).free q
   have HN : Hid (LayB W s n K2 T R (3 * n + i + 1) [] (wx.setCell ⟨b, q, none⟩ (.int .u64 H))) := (hl.cell List.mem_cons_self q H).fin28 hpq HRow.out
   clear hl hk hR HA HM1 HM2 HGr HTr HPr HRow
   go_wp2_with fail
   go_roundw
   case rel => exact ⟨i + 1, zab (i + 1), by omega, HN⟩
   case measure => simp [intOf]; omega
  ·have he : n = i + 1 := by omega
   obtain ⟨k, hk0⟩ : ∃ k, k = 3 * n + (n - 1) := ⟨_, rfl⟩
   have HLk : Hid (LayB W s n K2 T R k [] wr) := by have := HL.out; rw [show 3 * n + i = k by omega] at this; exact this
   rw [<- hk0] at HT2 HR2
   have hkn : Hid (k + 1 = 4 * n) := by unfold Hid; omega
   have hk8 : k <= 100 := by omega
   have hi0 : i = n - 1 := by omega
   have HPr : Hid (∀ wx, LayB W s n K2 T R k [] wx -> wx.cell? ⟨bp, op + i, none⟩ = some (.int .u64 (Pp (n - 1)))) := fun wx hR => by rw [hi0]; exact HPc.out (n - 1) wx (by omega) hR.old
   have HGr : Hid (∀ wx, LayB W s n K2 T R k [] wx -> wx.heap[gb]? = some (.cells (gc P Q G H a m cap) 25 (0, 0))) := fun wx hR => hR.prot HgK.out
   have HTr : Hid (∀ wx, LayB W s n K2 T R k [] wx -> wx.heap[gb + 1]? = some (.cells (tkc ba na ca X bb nb cb Y Z (some ⟨bp, op, none⟩) n cp) 41 (0, 0))) := fun wx hR => hR.prot HtK.out
   have HSr : Hid (∀ wx, LayB W s n K2 T R k [] wx -> wx.cell? ⟨s, 0, none⟩ = some (.int .i64 (n : Int))) := fun wx hR => by obtain ⟨v, u, hrow⟩ := hR.row; exact cell_of_row _ _ 0 _ _ (0, 0) hrow
   have hin : i < n := by omega
   have hpred : Value.int .i64 (IntKind.i64.wrap ((n : Int) - 1)) = .int .i64 (i : Int) := by rw [he]; exact zdi i (by omega)
   clear HL hk0 hi0
   go_upto_region 6 with fail
   clear cn
   refine zaa 23 [.k (.pointer (some ⟨s, 0, none⟩)), .k (gv P Q G H a m cap), .k (.pointer (some ⟨gb + 1, 5, none⟩)), .k (.slice (some ⟨bp, op, none⟩) n cp), .k (.pointer (some ⟨s, 0, none⟩)), .k (.pointer (some ⟨s, 0, none⟩)), .k (.pointer (some ⟨s, 0, none⟩)), .k (.int .i64 (n : Int)), .k (.int .i64 (i : Int)), .k (.pointer (some ⟨bp, op + i, none⟩)), .k (.int .u64 (Pp (n - 1))), .k (gv P Q G H a m cap), .k (.pointer (some ⟨gb, 2, none⟩)), .k (.int .u64 G), .k (gv P Q G H a m cap), .k (tk ba na ca X bb nb cb Y Z (some ⟨bp, op, none⟩) n cp), .k (.pointer (some ⟨s, 0, none⟩)), .k (.pointer (some ⟨s, 0, none⟩)), .k (.pointer (some ⟨s, 0, none⟩)), .k (.int .i64 (n : Int)), .k (.int .u64 kk), .k (.int .u64 ek), .k (.int .u64 (overI P (Pp (n - 1)) ek))] (LayB W s n K2 T R k []) (by kernel_rfl) (by kernel_rfl) rfl (zcz _ _ HLk.out (Old.refl _).drew) ?st ?_
   case st =>
    refine .c stp <| .c (sts underlying25 HGr.out) <| .c stp <| .c (stf 5 underlying29 HTr.out) <| .c stp <| .c stp <| .c stp <| .c (stl underlying3 HSr.out) <| .c (stv hpred) <| .c (sti (n := n) (c := cp) hin underlying29) <| .c (stl underlying22 HPr.out) <| .c (sts underlying25 HGr.out) <| .c stp <| .c (stf 2 underlying22 HGr.out) <| .c (sts underlying25 HGr.out) <| .c (sts underlying41 HTr.out) <| .c stp <| .c stp <| .c stp <| .c (stl underlying3 HSr.out) <| .c (stK zcz func121 (fun wx _ => HK.out wx)) <| .c (stK zcz func65 (fun wx _ => HE.out wx)) <| .c (stK zcz func99 (fun wx _ => HO.out wx)) .n
   intro t wx hR hk
   simp only [fill, Ent.val, List.set_cons_zero, List.set_cons_succ, List.drop_succ_cons, List.drop_zero, List.drop_nil]
   have HLx : Hid (LayB W s n K2 T R k [] wx) := hR
   clear hR hk HLk HGr HTr HPr HSr he hpred hin HPc hlt hi
   go_upto_region 7 with (go_at_call 113; refine (ladd8 W s n K2 T R k [] (overI P (Pp (n - 1)) ek) _ hn hk8 HT2.out HLx.out).mono ?_; rintro e w1 ⟨b, rfl, hl⟩)
   have HA : Hid (LayB W s n K2 T (ones8 R k) (k + 1) [(k, b)] w1) := hl
   clear hl HLx HT2
   obtain ⟨p, hp⟩ : ∃ p, p = 7 * n - 1 := ⟨_, rfl⟩
   have hp8 : p < 7 * n + 3 := by omega
   have HM1 : Hid (∀ wx, LayB W s n K2 T (ones8 R k) (k + 1) [(k, b)] wx -> Calls prog 122 #[.pointer (some ⟨s, 0, none⟩)] wx (Ret wx (.int .i64 (p : Int)))) := fun wx hR => (by obtain ⟨v, u, hrow⟩ := hR.row; rw [hp]; exact lm_tLast s n v u wx h0n hn hrow)
   have HGr : Hid (∀ wx, LayB W s n K2 T (ones8 R k) (k + 1) [(k, b)] wx -> wx.heap[gb]? = some (.cells (gc P Q G H a m cap) 25 (0, 0))) := fun wx hR => hR.prot HgK.out
   rw [<- hp] at HR2
   clear hp
   refine zaa 5 [.k (.slice (some ⟨b, 0, none⟩) (7 * n + 3) (7 * n + 3)), .k (.pointer (some ⟨s, 0, none⟩)), .k (.int .i64 (p : Int)), .k (.pointer (some ⟨gb, 3, none⟩)), .k (.int .u64 H)] (LayB W s n K2 T (ones8 R k) (k + 1) [(k, b)]) (by kernel_rfl) (by kernel_rfl) rfl (zcz _ _ HA.out (Old.refl _).drew) ?st ?_
   case st =>
    refine .c stp <| .c stp <| .c (stK zcz func122 (fun wx hR => HM1.out wx hR)) <| .c stp <| .c (stf 3 underlying22 HGr.out) .n
   intro t wx hR hk
   simp only [fill, Ent.val, List.set_cons_zero, List.set_cons_succ, List.drop_succ_cons, List.drop_zero, List.drop_nil]
   have q1 := (hR.full List.mem_cons_self).cell p hp8
   have f1 := (hR.full List.mem_cons_self).free p
   have HN : Hid (LayB W s n Ks T R (4 * n) [] (wx.setCell ⟨b, p, none⟩ (.int .u64 H))) := by
    have := ((hR.cell List.mem_cons_self p H).fin18 HR2.out).less HKs.out
    rw [hkn.out] at this
    exact this
   clear hR hk HA HM1 HGr
   go_wp2_with fail
   go_end0
   exact ⟨rfl, HN.out⟩
end
end Go.Proofs.YtlnmjbbpenhdbaaGreat
