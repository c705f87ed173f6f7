/-
  What the proof needs, part 18.
-/
import Derived.Test.YtlnmjbbpenhdbaaGreatKp17
namespace Go.Proofs.YtlnmjbbpenhdbaaGreat
open Tryz
set_option linter.unusedSimpArgs false
set_option linter.unusedVariables false
set_option maxRecDepth 100000
set_option maxHeartbeats 32000000
section
open Go.RowKit
set_option linter.unusedSimpArgs false in
theorem pprove_any (label : List Int) (P Q G H : Int) (a : OA) (n cap : Nat) (bt : OA) (nt ct : Nat) (T : NI) (bb : OA) (nb cb : Nat) (BA : Nat -> Option Addr) (L C : Nat -> Nat) (B : NN) (bw : OA) (nw cw : Nat) (X : NI) (bd : OA) (nd cd : Nat) (Y : NI) (F : NI) (hF : F = fun j => imI P Q (B j) Y (sizeN P Q nt T nb L B)) (w : World) (h4 : Four P Q G H) (hr : Righ P Q G) (hlb : Bts label) (hll : label.length <= 1000) (mt : nt <= 80) (mb : nb <= 80) (mL : ∀ j, j < nb -> L j <= 80) (mw : nw <= 80) (md : nd <= 80) (hcw : nw <= cw) (hcd : nd <= cd) (hC : ClaimIn w bt nt ct T bb nb cb BA L C B) (hX : FacsIn w bw nw X) (hY : FacsIn w bd nd Y) :
  Calls prog 90 #[gv P Q G H a n cap, .string (strOfNums label), cv bt nt ct bb nb cb, .slice bw nw cw, .slice bd nd cd] w (GivesP w (provB (sizeN P Q nt T nb L B) nw nd) nt F nw (fun k => ansI Q (chI label P Q G H nt T nb L B nt F) (X k) (Y k))) := by
 have HZ := lain3 w (gc P Q G H a n cap) (cc bt nt ct bb nb cb) (cc none 0 0 none 0 0) 25 50 55
 have HT : Hid (∀ w', Old (((w.alloc (.cells (gc P Q G H a n cap) 25)).alloc (.cells (cc bt nt ct bb nb cb) 50)).alloc (.cells (cc none 0 0 none 0 0) 55)) w' -> w'.cell? ⟨w.heap.size, 0, none⟩ = some (.int .u64 P) /\ w'.cell? ⟨w.heap.size, 1, none⟩ = some (.int .u64 Q) /\ w'.cell? ⟨w.heap.size, 2, none⟩ = some (.int .u64 G) /\ w'.cell? ⟨w.heap.size, 3, none⟩ = some (.int .u64 H) /\ w'.cell? ⟨w.heap.size, 4, none⟩ = some (.slice a n cap) /\ w'.cell? ⟨w.heap.size + 1, 0, none⟩ = some (.slice bt nt ct) /\ w'.cell? ⟨w.heap.size + 1, 1, none⟩ = some (.slice bb nb cb)) := fun w' ho => by
  have h := HZ.then ho
  exact ⟨h.cell 0 0 (by simp) rfl, h.cell 0 1 (by simp) rfl, h.cell 0 2 (by simp) rfl, h.cell 0 3 (by simp) rfl, h.cell 0 4 (by simp) rfl, h.cell 1 0 (by simp) rfl, h.cell 1 1 (by simp) rfl⟩
 have HRS := hid fun w' (ho : Old (((w.alloc (.cells (gc P Q G H a n cap) 25)).alloc (.cells (cc bt nt ct bb nb cb) 50)).alloc (.cells (cc none 0 0 none 0 0) 55)) w') => (HZ.then ho).row 2 (by simp)
 have HIm : Hid (∀ wx, Old w wx -> Calls prog 42 #[gv P Q G H a n cap, cv bt nt ct bb nb cb, .slice bd nd cd] wx (Gives wx (fitsB (sizeN P Q nt T nb L B) nd) nt F)) := fun wx ho => by rw [hF]; exact (zfa P Q G H a n cap bt nt ct T bb nb cb BA L C B bd nd cd Y wx h4 hr (hC.old ho) (hY.old ho)).mono fun e w' h => h.gives (by omega)
 have HFU : Hid (∀ j, U64 (F j)) := fun j => by rw [hF]; exact zdd _ _ _
 have HCh := hid fun b c wx (ho : Old w wx) (hf : FacsIn wx b nt F) => pchal_any label P Q G H a n cap bt nt ct T bb nb cb BA L C B b nt c F wx h4 hlb hll mt mb mL mt (hC.old ho) hf
 have hcu := ch_u64 label P Q G H nt T nb L B nt F
 generalize chI label P Q G H nt T nb L B nt F = ch at *
 obtain ⟨Z, hZ⟩ : ∃ Z : Nat -> Int, Z = fun k => ansI Q ch (X k) (Y k) := ⟨_, rfl⟩
 rw [<- hZ]
 have HAn : Hid (∀ wx, Old w wx -> Calls prog 43 #[gv P Q G H a n cap, .slice bw nw cw, .slice bd nd cd, .int .u64 ch] wx (Gives wx (decide (nw = nd)) nw Z)) := fun wx ho => by rw [hZ]; exact lanswer_any P Q G H a n cap bw nw cw X bd nd cd Y ch wx h4 hr hcu mw md hcw hcd (hX.old ho) (hY.old ho)
 have HZU : Hid (∀ k, U64 (Z k)) := fun k => by rw [hZ]; exact zd4 _ _ _ _
 clear hZ hF h4 hr hlb hll mL hC hX hY hcu mt mb mw md hcw hcd
 generalize sizeN P Q nt T nb L B = sz at *
 cases hok : fitsB sz nd with
 | false =>
  have HN : Hid (provB sz nw nd = false) := by unfold Hid provB; rw [hok]; rfl
  rw [hok] at HIm
  clear hok
  go_enter func90, ntmps90
  go_upto_region 1 with fail
  have HW0 := hid HZ.old
  generalize hW : ((w.alloc (.cells (gc P Q G H a n cap) 25)).alloc (.cells (cc bt nt ct bb nb cb) 50)).alloc (.cells (cc none 0 0 none 0 0) 55) = W at *
  clear hW
  obtain ⟨d0, d1, d2, d3, d4, z0, z1⟩ := HT.out _ (Old.refl _)
  go_upto_region 2 with (go_at_call 42; refine (HIm.out _ HW0.out).mono ?_; rintro e w2 ⟨v, rfl, hN, h2⟩)
  clear d0 d1 d2 d3 d4 z0 z1 hN
  have HR := HRS.out _ h2
  have q0 : w2.cell? ⟨w.heap.size + 1 + 1, 0, none⟩ = some (.slice none 0 0) := cell_of_row _ _ 0 _ _ (0, 0) HR
  have q1 : w2.cell? ⟨w.heap.size + 1 + 1, 1, none⟩ = some (.slice none 0 0) := cell_of_row _ _ 1 _ _ (0, 0) HR
  have f0 : w2.frozen? ⟨w.heap.size + 1 + 1, 0, none⟩ = false := zac HR 0
  have f1 : w2.frozen? ⟨w.heap.size + 1 + 1, 1, none⟩ = false := zac HR 1
  have HRh := hid HR
  clear HR
  go_wp2_with fail
  exact bodyPost_ret (zay (b := w.heap.size + 1 + 1) rfl rfl rfl (zaW HRh.out underlying55 zbq)) rfl (zc3 HN.out (Old.setCell (p := ⟨w.heap.size + 1 + 1, 1, none⟩) (Old.setCell (p := ⟨w.heap.size + 1 + 1, 0, none⟩) (HW0.out.trans h2) (by show w.heap.size <= w.heap.size + 1 + 1; omega) _) (by show w.heap.size <= w.heap.size + 1 + 1; omega) _))
 | true =>
  rw [hok] at HIm
  by_cases hnn : nw = nd
  ·subst hnn
   have HN : Hid (provB sz nw nw = true) := by unfold Hid provB; rw [hok]; simp
   have k1 : decide (nw = nw) = true := by simp
   rw [k1] at HAn
   clear hok k1
   go_enter func90, ntmps90
   go_upto_region 1 with fail
   have HW0 := hid HZ.old
   have hs0 : w.heap.size + 1 + 1 < (((w.alloc (.cells (gc P Q G H a n cap) 25)).alloc (.cells (cc bt nt ct bb nb cb) 50)).alloc (.cells (cc none 0 0 none 0 0) 55)).heap.size := by simp
   generalize hW : ((w.alloc (.cells (gc P Q G H a n cap) 25)).alloc (.cells (cc bt nt ct bb nb cb) 50)).alloc (.cells (cc none 0 0 none 0 0) 55) = W at *
   clear hW
   obtain ⟨d0, d1, d2, d3, d4, z0, z1⟩ := HT.out _ (Old.refl _)
   go_upto_region 2 with (go_at_call 42; refine (HIm.out _ HW0.out).mono ?_; rintro e w2 ⟨v, rfl, hN, h2⟩)
   simp only [if_true] at hN
   obtain ⟨bf, cf, rfl, hcf, hff⟩ := hN.facs (fun j _ => HFU.out j)
   have HNu := hid hN
   have HFF := hid hff
   have HW2 := hid h2
   clear d0 d1 d2 d3 d4 z0 z1 hN hff h2
   obtain ⟨d0, d1, d2, d3, d4, z0, z1⟩ := HT.out _ HW2.out
   go_upto_region 4 with fail
   have hd : Old W w2.drew := HW2.out.drew
   go_region_held3 (fun w' => w'.cell? ⟨w.heap.size, 0, none⟩ = some (.int .u64 P) /\ w'.cell? ⟨w.heap.size, 1, none⟩ = some (.int .u64 Q) /\ w'.cell? ⟨w.heap.size, 2, none⟩ = some (.int .u64 G) /\ w'.cell? ⟨w.heap.size, 3, none⟩ = some (.int .u64 H) /\ w'.cell? ⟨w.heap.size, 4, none⟩ = some (.slice a n cap) /\ w'.cell? ⟨w.heap.size + 1, 0, none⟩ = some (.slice bt nt ct) /\ w'.cell? ⟨w.heap.size + 1, 1, none⟩ = some (.slice bb nb cb)) (first | exact HT.out _ h5 | exact HT.out _ h4 | exact HT.out _ hd) (first
    | (go_at_call 129; refine (HCh.out _ _ _ (HW0.out.trans hd) (HFF.out.old (Old.refl _).drew)).mono ?_; rintro e w4 ⟨rfl, o4⟩; have h4 : Old W w4 := hd.trans o4)
    | (go_at_call 43; refine (HAn.out _ (HW0.out.trans h4)).mono ?_; rintro e w5 ⟨u, rfl, hNz, o5⟩; have h5 : Old W w5 := h4.trans o5))
   simp only [if_true] at hNz
   obtain ⟨bu, cu, rfl, hcu2, _⟩ := hNz.facs (fun j _ => HZU.out j)
   have HNz := hid (hNz.mono h4.size)
   have HNv := hid (HNu.out.old (((Old.refl w2).drew.trans o4).trans o5))
   have HW5 := hid h5
   clear d0 d1 d2 d3 d4 z0 z1 hNz
   have HR := HRS.out _ HW5.out
   have q0 : w5.cell? ⟨w.heap.size + 1 + 1, 0, none⟩ = some (.slice none 0 0) := cell_of_row _ _ 0 _ _ (0, 0) HR
   have q1 : w5.cell? ⟨w.heap.size + 1 + 1, 1, none⟩ = some (.slice none 0 0) := cell_of_row _ _ 1 _ _ (0, 0) HR
   have f0 : w5.frozen? ⟨w.heap.size + 1 + 1, 0, none⟩ = false := zac HR 0
   have f1 : w5.frozen? ⟨w.heap.size + 1 + 1, 1, none⟩ = false := zac HR 1
   have HRh := hid HR
   clear HR
   go_wp2_with fail
   refine bodyPost_ret (zay (b := w.heap.size + 1 + 1) rfl rfl rfl (zaW HRh.out underlying55 zbq)) rfl ?_
   refine zeU HN.out (Old.setCell (p := ⟨w.heap.size + 1 + 1, 1, none⟩) (Old.setCell (p := ⟨w.heap.size + 1 + 1, 0, none⟩) (HW0.out.trans HW5.out) (by show w.heap.size <= w.heap.size + 1 + 1; omega) _) (by show w.heap.size <= w.heap.size + 1 + 1; omega) _) ?_ ?_
   ·exact (ownsRow_setCell_below (ownsRow_setCell_below HNv.out (by show w.heap.size + 1 + 1 < W.heap.size; exact hs0) _) (by show w.heap.size + 1 + 1 < W.heap.size; exact hs0) _).mono HW0.out.size
   ·exact (ownsRow_setCell_below (ownsRow_setCell_below HNz.out (by show w.heap.size + 1 + 1 < W.heap.size; exact hs0) _) (by show w.heap.size + 1 + 1 < W.heap.size; exact hs0) _).mono HW0.out.size
  ·have HN : Hid (provB sz nw nd = false) := by unfold Hid provB; simp [hnn]
   have k1 : decide (nw = nd) = false := decide_eq_false hnn
   rw [k1] at HAn
   clear hok k1
   go_enter func90, ntmps90
   go_upto_region 1 with fail
   have HW0 := hid HZ.old
   have hs0 : w.heap.size + 1 + 1 < (((w.alloc (.cells (gc P Q G H a n cap) 25)).alloc (.cells (cc bt nt ct bb nb cb) 50)).alloc (.cells (cc none 0 0 none 0 0) 55)).heap.size := by simp
   generalize hW : ((w.alloc (.cells (gc P Q G H a n cap) 25)).alloc (.cells (cc bt nt ct bb nb cb) 50)).alloc (.cells (cc none 0 0 none 0 0) 55) = W at *
   clear hW
   obtain ⟨d0, d1, d2, d3, d4, z0, z1⟩ := HT.out _ (Old.refl _)
   go_upto_region 2 with (go_at_call 42; refine (HIm.out _ HW0.out).mono ?_; rintro e w2 ⟨v, rfl, hN, h2⟩)
   simp only [if_true] at hN
   obtain ⟨bf, cf, rfl, hcf, hff⟩ := hN.facs (fun j _ => HFU.out j)
   have HNu := hid hN
   have HFF := hid hff
   have HW2 := hid h2
   clear d0 d1 d2 d3 d4 z0 z1 hN hff h2
   obtain ⟨d0, d1, d2, d3, d4, z0, z1⟩ := HT.out _ HW2.out
   go_upto_region 4 with fail
   have hd : Old W w2.drew := HW2.out.drew
   go_region_held3 (fun w' => w'.cell? ⟨w.heap.size, 0, none⟩ = some (.int .u64 P) /\ w'.cell? ⟨w.heap.size, 1, none⟩ = some (.int .u64 Q) /\ w'.cell? ⟨w.heap.size, 2, none⟩ = some (.int .u64 G) /\ w'.cell? ⟨w.heap.size, 3, none⟩ = some (.int .u64 H) /\ w'.cell? ⟨w.heap.size, 4, none⟩ = some (.slice a n cap) /\ w'.cell? ⟨w.heap.size + 1, 0, none⟩ = some (.slice bt nt ct) /\ w'.cell? ⟨w.heap.size + 1, 1, none⟩ = some (.slice bb nb cb)) (first | exact HT.out _ h5 | exact HT.out _ h4 | exact HT.out _ hd) (first
    | (go_at_call 129; refine (HCh.out _ _ _ (HW0.out.trans hd) (HFF.out.old (Old.refl _).drew)).mono ?_; rintro e w4 ⟨rfl, o4⟩; have h4 : Old W w4 := hd.trans o4)
    | (go_at_call 43; refine (HAn.out _ (HW0.out.trans h4)).mono ?_; rintro e w5 ⟨u, rfl, hNz, o5⟩; have h5 : Old W w5 := h4.trans o5))
   clear d0 d1 d2 d3 d4 z0 z1 hNz
   have HR := HRS.out _ h5
   have q0 : w5.cell? ⟨w.heap.size + 1 + 1, 0, none⟩ = some (.slice none 0 0) := cell_of_row _ _ 0 _ _ (0, 0) HR
   have q1 : w5.cell? ⟨w.heap.size + 1 + 1, 1, none⟩ = some (.slice none 0 0) := cell_of_row _ _ 1 _ _ (0, 0) HR
   have f0 : w5.frozen? ⟨w.heap.size + 1 + 1, 0, none⟩ = false := zac HR 0
   have f1 : w5.frozen? ⟨w.heap.size + 1 + 1, 1, none⟩ = false := zac HR 1
   have HRh := hid HR
   clear HR
   go_wp2_with fail
   exact bodyPost_ret (zay (b := w.heap.size + 1 + 1) rfl rfl rfl (zaW HRh.out underlying55 zbq)) rfl (zc3 HN.out (Old.setCell (p := ⟨w.heap.size + 1 + 1, 1, none⟩) (Old.setCell (p := ⟨w.heap.size + 1 + 1, 0, none⟩) (HW0.out.trans h5) (by show w.heap.size <= w.heap.size + 1 + 1; omega) _) (by show w.heap.size <= w.heap.size + 1 + 1; omega) _))
end
end Go.Proofs.YtlnmjbbpenhdbaaGreat
