/-
  The contracts of the document's functions of layer 6: the image of exponents, and whether a claim holds.
-/
import Derived.Test.YtokhpppealdfmafK13
namespace Go.Proofs.Ytokhpppealdfmaf
open Go.RowKit

/-- Is there an image? -/
def fitsB (sz nw : Nat) : Bool := decide (sz ≠ 0) && decide (nw = sz)
theorem fitsB_iff {sz nw : Nat} : fitsB sz nw = true ↔ sz ≠ 0 ∧ nw = sz := by simp [fitsB]

set_option linter.unusedSimpArgs false in
set_option maxRecDepth 100000 in
set_option maxHeartbeats 8000000 in
theorem rimage_any (P Q G H : Int) (a : Option Addr) (n cap : Nat) (bt : Option Addr) (nt ct : Nat) (T : Nat → Int) (bb : Option Addr) (nb cb : Nat) (BA : Nat → Option Addr) (L C : Nat → Nat) (B : Nat → Nat → Int) (bw : Option Addr) (nw cw : Nat) (X : Nat → Int) (w : World) (h4 : Four P Q G H) (hC : ClaimIn w bt nt ct T bb nb cb BA L C B) (hX : FacsIn w bw nw X) :
    Calls Try.prog 46 #[gv P Q G H a n cap, cv bt nt ct bb nb cb, .slice bw nw cw] w (Gives w (fitsB (sizeN P Q nt T nb L B) nw) nt (fun j => imI P Q (B j) X (sizeN P Q nt T nb L B))) := by
  have HZ := lain2 w (gc P Q G H a n cap) (cc bt nt ct bb nb cb) 25 34
  have HF : Hid (∀ w', Lain w [(gc P Q G H a n cap, 25), (cc bt nt ct bb nb cb, 34)] w' → w'.cell? ⟨w.heap.size, 0, none⟩ = some (.int .u64 P) ∧ w'.cell? ⟨w.heap.size, 1, none⟩ = some (.int .u64 Q) ∧ w'.cell? ⟨w.heap.size, 2, none⟩ = some (.int .u64 G) ∧ w'.cell? ⟨w.heap.size, 3, none⟩ = some (.int .u64 H) ∧ w'.cell? ⟨w.heap.size, 4, none⟩ = some (.slice a n cap) ∧ w'.cell? ⟨w.heap.size + 1, 0, none⟩ = some (.slice bt nt ct) ∧ w'.cell? ⟨w.heap.size + 1, 1, none⟩ = some (.slice bb nb cb)) := fun _ h => ⟨h.cell 0 0 (by simp) rfl, h.cell 0 1 (by simp) rfl, h.cell 0 2 (by simp) rfl, h.cell 0 3 (by simp) rfl, h.cell 0 4 (by simp) rfl, h.cell 1 0 (by simp) rfl, h.cell 1 1 (by simp) rfl⟩
  have HC : Hid (ClaimIn w bt nt ct T bb nb cb BA L C B) := hC
  have HX : Hid (FacsIn w bw nw X) := hX
  have HS : Hid (∀ wx, Old w wx → Calls Try.prog 70 #[gv P Q G H a n cap, cv bt nt ct bb nb cb] wx fun e w' => e = .returned (.int .i64 (sizeN P Q nt T nb L B : Nat)) ∧ Old wx w') := fun wx ho => rsize_any P Q G H a n cap bt nt ct T bb nb cb BA L C B wx h4 (hC.old ho)
  have hcl := sizeN_claim (P := P) (Q := Q) (nt := nt) (T := T) (nb := nb) (L := L) (B := B)
  have hle := sizeN_le P Q nt T nb L B
  generalize sizeN P Q nt T nb L B = sz at *
  obtain ⟨E, hE⟩ : ∃ E : Nat → Nat → Int, E = fun j i => expI P Q (B j i) (X i) := ⟨_, rfl⟩
  obtain ⟨F, hF⟩ : ∃ F : Nat → Int, F = fun j => prodI P (E j) sz := ⟨_, rfl⟩
  have h46 : (fun j => imI P Q (B j) X sz) = F := by rw [hF, hE]; rfl
  rw [h46]
  clear h46
  have HEx : Hid (∀ j k wx, U64 (B j k) → U64 (X k) → Calls Try.prog 64 #[gv P Q G H a n cap, .int .u64 (B j k), .int .u64 (X k)] wx fun e w' => e = .returned (.int .u64 (E j k)) ∧ Old wx w') := fun j k wx hb hx => (rexp_any P Q G H (B j k) (X k) a n cap wx h4.q1 hb.1 hb.2 hx.1 hx.2).mono fun e w' ⟨h, o⟩ => ⟨by rw [h, hE], o⟩
  have HMu : Hid (∀ j k wx, Calls Try.prog 71 #[.int .u64 (prodI P (E j) k), .int .u64 (E j k), .int .u64 P] wx fun e w' => e = .returned (.int .u64 (prodI P (E j) (k + 1))) ∧ Old wx w') := fun j k wx => (rmul_any (prodI P (E j) k) (E j k) P wx (u64_prod _ _ _).1 (u64_prod _ _ _).2 (by rw [hE]; exact (u64_exp _ _ _ _).1) (by rw [hE]; exact (u64_exp _ _ _ _).2)).mono fun e w' ⟨h, o⟩ => ⟨h, (Old.refl _).draws o⟩
  have HFj : Hid (∀ j, prodI P (E j) sz = F j) := fun j => by rw [hF]
  clear hF hE h4 hC hX
  obtain ⟨i0, hi, hz0, hz1, hz2⟩ := info_parts u64info
  go_enter Try.func46, Try.ntmps46
  go_upto_region 1 with fail
  generalize hW : (w.alloc (.cells (gc P Q G H a n cap) 25)).alloc (.cells (cc bt nt ct bb nb cb) 34) = W at *
  clear hW
  have HW0 : Hid (Old w W) := HZ.old
  obtain ⟨d0, d1, d2, d3, d4, t0, t1⟩ := HF.out _ HZ
  go_upto_region 2 with (go_at_call 70; refine (HS.out _ HW0.out).mono ?_; rintro e w2 ⟨rfl, h2⟩)
  clear HS d0 d1 d2 d3 d4 t0 t1
  by_cases hs0 : sz = 0
  · have HN : Hid (fitsB sz nw = false) := no_of fun h => (fitsB_iff.1 h).1 hs0
    have k1 : (sz : Int) = 0 := by omega
    clear hcl hs0
    go_wp2_with fail
    go_ret2
    exact gives_no HN.out (HW0.out.trans h2)
  by_cases hnw : nw = sz
  · have hcl := hcl hs0
    subst hnw
    have HN : Hid (fitsB nw nw = true) := fitsB_iff.2 ⟨hs0, rfl⟩
    rcases HC.out.bas with h0 | ⟨lb, lo, hqb, _, hrb⟩
    · have := hcl.t1; have := hcl.nb; omega
    subst hqb
    rcases HX.out with h0 | ⟨xb, xo, hqx, _, hrx⟩
    · omega
    subst hqx
    have HRB : Hid (∀ j, j < nt → ∀ w', Old w w' → w'.cell? ⟨lb, lo + j, none⟩ = some (.slice (BA j) nw (C j))) := fun j hj w' ho => by
      have := (hrb j (by have := hcl.nb; omega)).1
      rw [hcl.len j hj] at this
      exact ho.cellOf this
    have HRF : Hid (∀ j, j < nt → FacsIn w (BA j) nw (B j)) := fun j hj => by
      have := (hrb j (by have := hcl.nb; omega)).2.2.2
      rwa [hcl.len j hj] at this
    have HRX : Hid (∀ k, k < nw → ∀ w', Old w w' → w'.cell? ⟨xb, xo + k, none⟩ = some (.int .u64 (X k))) := fun k hk w' ho => ho.cellOf (hrx k hk).1
    have HXU : Hid (∀ k, k < nw → U64 (X k)) := fun k hk => (hrx k hk).2
    have hnt := hcl.t64
    have hnb := hcl.nb
    have k1 : ¬ (nw : Int) = 0 := by omega
    have k3 : ((nw : Int) == 0) = false := by simp; omega
    have HW2 : Hid (Old W w2) := h2
    clear hrb hrx hcl h2
    subst hnb
    go_wp2_with fail
    go_loopw [9, 10] (fun v jv wx => ∃ j : Nat, jv = .int .i64 (j : Int) ∧ j ≤ nb ∧ Hid (Nums wx W.heap.size v j F) ∧ Hid (Old W wx)) (fun _ jv _ => nb - (intOf jv).toNat)
    case atStart => exact ⟨0, rfl, Nat.zero_le _, nums_nil _ _ _, HW2⟩
    case round =>
      obtain ⟨j, rfl, hj, HNu, HW⟩ := hrel
      by_cases hlt : j < nb
      · rcases HRF.out j hlt with h0 | ⟨rb, ro, hq, _, hr⟩
        · omega
        have HRR : Hid (∀ k, k < nw → ∀ w', Old w w' → w'.cell? ⟨rb, ro + k, none⟩ = some (.int .u64 (B j k))) := fun k hk w' ho => ho.cellOf (hr k hk).1
        have HRU : Hid (∀ k, k < nw → U64 (B j k)) := fun k hk => (hr k hk).2
        have HL : Hid (∀ w', Old w w' → w'.cell? ⟨lb, lo + j, none⟩ = some (.slice (some ⟨rb, ro, none⟩) nw (C j))) := fun w' ho => by rw [← hq]; exact HRB.out j hlt w' ho
        clear hr hq
        obtain ⟨wo, hwo⟩ : ∃ x : World, x = wr := ⟨_, rfl⟩
        have HOo : Hid (Old wo wr) := by rw [hwo]; exact Old.refl _
        rw [← hwo] at HNu HW
        have HWr : Hid (Old W wr) := by rw [← hwo]; exact HW
        clear hwo
        obtain ⟨d0, d1, d2, d3, d4, t0, t1⟩ := HF.out _ (HZ.then HWr.out)
        go_wp2_with fail
        clear d0 d1 d2 d3 d4 t0 t1
        go_loopw [11, 12] (fun xv kv wx => ∃ k : Nat, kv = .int .i64 (k : Int) ∧ k ≤ nw ∧ xv = .int .u64 (prodI P (E j) k) ∧ Hid (Old wo wx)) (fun _ kv _ => nw - (intOf kv).toNat)
        case atStart => exact ⟨0, rfl, Nat.zero_le _, rfl, HOo⟩
        case round =>
          obtain ⟨k, rfl, hk, rfl, HOk⟩ := hrel
          by_cases hlk : k < nw
          · have HT : Hid (∀ w', Old W w' → w'.cell? ⟨w.heap.size, 0, none⟩ = some (.int .u64 P) ∧ w'.cell? ⟨w.heap.size, 1, none⟩ = some (.int .u64 Q) ∧ w'.cell? ⟨w.heap.size, 2, none⟩ = some (.int .u64 G) ∧ w'.cell? ⟨w.heap.size, 3, none⟩ = some (.int .u64 H) ∧ w'.cell? ⟨w.heap.size, 4, none⟩ = some (.slice a n cap) ∧ w'.cell? ⟨w.heap.size + 1, 0, none⟩ = some (.slice bt nb ct) ∧ w'.cell? ⟨w.heap.size + 1, 1, none⟩ = some (.slice (some ⟨lb, lo, none⟩) nb cb) ∧ w'.cell? ⟨lb, lo + j, none⟩ = some (.slice (some ⟨rb, ro, none⟩) nw (C j)) ∧ w'.cell? ⟨rb, ro + k, none⟩ = some (.int .u64 (B j k)) ∧ w'.cell? ⟨xb, xo + k, none⟩ = some (.int .u64 (X k))) := fun w' ho => by
              obtain ⟨d0, d1, d2, d3, d4, t0, t1⟩ := HF.out _ (HZ.then ho)
              exact ⟨d0, d1, d2, d3, d4, t0, t1, HL.out _ (HW0.out.trans ho), HRR.out k hlk _ (HW0.out.trans ho), HRX.out k hlk _ (HW0.out.trans ho)⟩
            have HWk : Hid (Old W wr) := HW.out.trans HOk.out
            obtain ⟨d0, d1, d2, d3, d4, t0, t1, cl, cb1, cx⟩ := HT.out _ HWk.out
            have HE1 : Hid (∀ wx, Calls Try.prog 64 #[gv P Q G H a n cap, .int .u64 (B j k), .int .u64 (X k)] wx fun e w' => e = .returned (.int .u64 (E j k)) ∧ Old wx w') := fun wx => HEx.out j k wx (HRU.out k hlk) (HXU.out k hlk)
            have HM1 : Hid (∀ wx, Calls Try.prog 71 #[.int .u64 (prodI P (E j) k), .int .u64 (E j k), .int .u64 P] wx fun e w' => e = .returned (.int .u64 (prodI P (E j) (k + 1))) ∧ Old wx w') := fun wx => HMu.out j k wx
            have k9 : (j : Int) < (nb : Int) := by omega
            obtain ⟨x1, hx1⟩ : ∃ x1 : Int, x1 = prodI P (E j) (k + 1) := ⟨_, rfl⟩
            rw [← hx1] at HM1
            have HV1 : Hid (Value.int .u64 x1 = .int .u64 (prodI P (E j) (k + 1))) := by rw [hx1]; exact rfl
            clear hx1
            go_upto_region 12 with fail
            go_region_held3 (fun w' => w'.cell? ⟨w.heap.size, 0, none⟩ = some (.int .u64 P) ∧ w'.cell? ⟨w.heap.size, 1, none⟩ = some (.int .u64 Q) ∧ w'.cell? ⟨w.heap.size, 2, none⟩ = some (.int .u64 G) ∧ w'.cell? ⟨w.heap.size, 3, none⟩ = some (.int .u64 H) ∧ w'.cell? ⟨w.heap.size, 4, none⟩ = some (.slice a n cap) ∧ w'.cell? ⟨w.heap.size + 1, 0, none⟩ = some (.slice bt nb ct) ∧ w'.cell? ⟨w.heap.size + 1, 1, none⟩ = some (.slice (some ⟨lb, lo, none⟩) nb cb) ∧ w'.cell? ⟨lb, lo + j, none⟩ = some (.slice (some ⟨rb, ro, none⟩) nw (C j)) ∧ w'.cell? ⟨rb, ro + k, none⟩ = some (.int .u64 (B j k)) ∧ w'.cell? ⟨xb, xo + k, none⟩ = some (.int .u64 (X k))) (first | exact HT.out _ h5 | exact HT.out _ h4 | exact HT.out _ HWk.out.drew) (first
              | (go_at_call 64; refine (HE1.out _).mono ?_; rintro e w4 ⟨rfl, o4⟩; have h4 : Old W w4 := HWk.out.drew.trans o4)
              | (go_at_call 71; refine (HM1.out _).mono ?_; rintro e w5 ⟨rfl, o5⟩; have h5 : Old W w5 := h4.trans o5; have HO5 : Hid (Old wo w5) := (HOk.out.drew.trans o4).trans o5))
            go_wp2_with fail
            go_roundw
            case rel => exact ⟨k + 1, idx_next k, by omega, HV1.out, HO5⟩
            case measure => simp [intOf]; omega
          · have he : nw = k := by omega
            subst he
            have hown := HNu.out.old HOk.out
            have hWk : Old W wr := HW.out.trans HOk.out
            have hs4 := hWk.size
            have HV : Hid (prodI P (E j) nw = F j) := HFj.out j
            generalize prodI P (E j) nw = xf at *
            go_wp2_with (at_builtin; refine wpList_append_own _ rfl _ _ 27 rfl W.heap.size 22 i0 (.int .u64 0) 1 8 Try.underlying27 hi hz0 hz1 hz2 rfl (by decide) _ _ _ rfl (World.ownsRow.alloc hown _) ⟨wr.heap.size, 0, none⟩ 1 1 [.int .u64 xf] rfl rfl ?c1 ?c2 ?c3 ?c4 ?c5 ?_)
            case c1 => exact cell_one_new _ _ _
            case c2 => intro u hu; simp at hu; subst hu; rfl
            case c3 => unfold maxLen; omega
            case c4 => omega
            case c5 => simp; omega
            intro v' w5 hown' hgrow _
            have HN5 : Hid (Nums w5 W.heap.size v' (j + 1) F) := Nums.app hown' HV.out.symm
            have HW5 : Hid (Old W w5) := Nums.grown hown hWk hgrow
            clear hown' hgrow hown hWk
            go_wp2
            go_roundw
            case rel => exact ⟨j + 1, idx_next j, by omega, HN5, HW5⟩
            case measure => simp [intOf]; omega
      · have he : nb = j := by omega
        subst he
        obtain ⟨d0, d1, d2, d3, d4, t0, t1⟩ := HF.out _ (HZ.then HW.out)
        go_wp2_with fail
        go_ret2
        exact gives_yes HN.out (HNu.out.mono HW0.out.size) (HW0.out.trans HW.out)
  · have HN : Hid (fitsB sz nw = false) := no_of fun h => hnw (fitsB_iff.1 h).2
    have k1 : ¬ (sz : Int) = 0 := by omega
    have k2 : ¬ (nw : Int) = (sz : Int) := by omega
    have k3 : ((sz : Int) == 0) = false := by simp; omega
    have k4 : ((nw : Int) != (sz : Int)) = true := by simp; omega
    have k5 : ((nw : Int) == (sz : Int)) = false := by simp; omega
    clear hcl hs0
    go_wp2_with fail
    go_ret2
    exact gives_no HN.out (HW0.out.trans h2)

end Go.Proofs.Ytokhpppealdfmaf
