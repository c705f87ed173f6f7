/-
  The document's Alike, of claims that are the same (layer 7).
-/
import Derived.Test.YtokhpppealdfmafPmk
import Derived.Test.YtokhpppealdfmafK15
namespace Go.Proofs.Ytokhpppealdfmaf
open Go.RowKit

theorem same7 (n : Nat) (X : Nat → Int) : sameB n X n X = true := sameB_iff.2 ⟨rfl, fun _ _ => rfl⟩

set_option linter.unusedSimpArgs false in
set_option maxRecDepth 100000 in
set_option maxHeartbeats 8000000 in
theorem ralike_any (b1 : Option Addr) (nt c1 : Nat) (T : Nat → Int) (b2 : Option Addr) (nb c2 : Nat) (BA : Nat → Option Addr) (L C : Nat → Nat) (B : Nat → Nat → Int) (b3 : Option Addr) (c3 : Nat) (b4 : Option Addr) (c4 : Nat) (BA' : Nat → Option Addr) (C' : Nat → Nat) (w : World) (hC : ClaimIn w b1 nt c1 T b2 nb c2 BA L C B) (hD : ClaimIn w b3 nt c3 T b4 nb c4 BA' L C' B) :
    Calls Try.prog 29 #[cv b1 nt c1 b2 nb c2, cv b3 nt c3 b4 nb c4] w fun e w' => e = .returned (.bool true) ∧ Old w w' := by
  have HZ := lain2 w (cc b1 nt c1 b2 nb c2) (cc b3 nt c3 b4 nb c4) 34 34
  have mt : nt ≤ 9223372036854775807 := Nat.le_trans hC.tc hC.tm
  have mb : nb ≤ 9223372036854775807 := Nat.le_trans hC.bc hC.bm
  have HS : Hid (∀ wx, Old w wx → Calls Try.prog 18 #[.slice b1 nt c1, .slice b3 nt c3] wx fun e w' => e = .returned (.bool true) ∧ Old wx w') := fun wx ho => (rsame_any b1 nt c1 T b3 nt c3 T wx mt (hC.tar.old ho) (hD.tar.old ho)).mono fun e w' ⟨h, k⟩ => ⟨by rw [h, same7], k⟩
  have HB : Hid (ListsIn w b2 nb BA L C B) := hC.bas
  have HE : Hid (ListsIn w b4 nb BA' L C' B) := hD.bas
  clear hC hD
  go_enter Try.func29, Try.ntmps29
  go_upto_region 1 with fail
  generalize (w.alloc (.cells (cc b1 nt c1 b2 nb c2) 34)).alloc (.cells (cc b3 nt c3 b4 nb c4) 34) = W at *
  have HW0 : Hid (Old w W) := HZ.old
  have HT : Hid (∀ w', Old W w' → w'.cell? ⟨w.heap.size, 0, none⟩ = some (.slice b1 nt c1) ∧ w'.cell? ⟨w.heap.size, 1, none⟩ = some (.slice b2 nb c2) ∧ w'.cell? ⟨w.heap.size + 1, 0, none⟩ = some (.slice b3 nt c3) ∧ w'.cell? ⟨w.heap.size + 1, 1, none⟩ = some (.slice b4 nb c4)) := fun w' ho => by
    have h := HZ.then ho
    exact ⟨h.cell 0 0 (by simp) rfl, h.cell 0 1 (by simp) rfl, h.cell 1 0 (by simp) rfl, h.cell 1 1 (by simp) rfl⟩
  clear HZ
  obtain ⟨d0, d1, d2, d3⟩ := HT.out _ (Old.refl _)
  go_upto_region 3 with (go_at_call 18; refine (HS.out _ HW0.out).mono ?_; rintro e w2 ⟨rfl, h2⟩; clear d0 d1 d2 d3; obtain ⟨d0, d1, d2, d3⟩ := HT.out _ h2)
  have HW2 : Hid (Old W w2) := h2
  clear d0 d1 d2 d3 h2
  go_upto_region 4 with fail
  go_loopw [5] (fun iv wx => ∃ i : Nat, iv = .int .i64 (i : Int) ∧ i ≤ nb ∧ Hid (Old W wx)) (fun iv _ => nb - (intOf iv).toNat)
  case atStart => exact ⟨0, rfl, Nat.zero_le _, HW2⟩
  case round =>
    obtain ⟨i, rfl, hi, HW⟩ := hrel
    obtain ⟨d0, d1, d2, d3⟩ := HT.out _ HW.out
    by_cases hlt : i < nb
    · rcases HB.out with h0 | ⟨bx, ox, hqx, _, hrx⟩
      · omega
      rcases HE.out with h0 | ⟨by_, oy, hqy, _, hry⟩
      · omega
      obtain ⟨hx1, hx2, hx3, hx4⟩ := hrx i hlt
      obtain ⟨hy1, hy2, hy3, hy4⟩ := hry i hlt
      have HR : Hid (∀ wx, Old W wx → Calls Try.prog 18 #[.slice (BA i) (L i) (C i), .slice (BA' i) (L i) (C' i)] wx fun e w' => e = .returned (.bool true) ∧ Old wx w') := fun wx ho => (rsame_any (BA i) (L i) (C i) (B i) (BA' i) (L i) (C' i) (B i) wx (by omega) (hx4.old (HW0.out.trans ho)) (hy4.old (HW0.out.trans ho))).mono fun e w' ⟨h, k⟩ => ⟨by rw [h, same7], k⟩
      have HC : Hid (∀ w', Old W w' → w'.cell? ⟨bx, ox + i, none⟩ = some (.slice (BA i) (L i) (C i)) ∧ w'.cell? ⟨by_, oy + i, none⟩ = some (.slice (BA' i) (L i) (C' i))) := fun w' ho => ⟨(HW0.out.trans ho).cellOf hx1, (HW0.out.trans ho).cellOf hy1⟩
      clear hrx hry hx1 hx2 hx3 hx4 hy1 hy2 hy3 hy4
      subst hqx hqy
      go_upto_region 6 with fail
      have i0 : (0 : Int) ≤ (i : Int) := by omega
      have i1 : (i : Int) < (nb : Int) := by omega
      have hd : Old W wr.drew := HW.out.drew
      go_region_held3 (fun w' => (w'.cell? ⟨w.heap.size, 0, none⟩ = some (.slice b1 nt c1) ∧ w'.cell? ⟨w.heap.size, 1, none⟩ = some (.slice (some ⟨bx, ox, none⟩) nb c2) ∧ w'.cell? ⟨w.heap.size + 1, 0, none⟩ = some (.slice b3 nt c3) ∧ w'.cell? ⟨w.heap.size + 1, 1, none⟩ = some (.slice (some ⟨by_, oy, none⟩) nb c4)) ∧ w'.cell? ⟨bx, ox + i, none⟩ = some (.slice (BA i) (L i) (C i)) ∧ w'.cell? ⟨by_, oy + i, none⟩ = some (.slice (BA' i) (L i) (C' i))) (first | exact ⟨HT.out _ h5, HC.out _ h5⟩ | exact ⟨HT.out _ hd, HC.out _ hd⟩) (first
        | (go_at_call 18; refine (HR.out _ hd).mono ?_; rintro e w5 ⟨rfl, o5⟩; have h5 : Old W w5 := hd.trans o5))
      have HW5 : Hid (Old W w5) := h5
      clear h5 d0 d1 d2 d3
      go_wp2_with fail
      go_roundw
      case rel => exact ⟨i + 1, by first | exact idx_next i | exact idx_up i, by omega, HW5⟩
      case measure => simp [intOf]; omega
    · have he : nb = i := by omega
      subst he
      go_wp2_with fail
      go_ret
      exact ⟨rfl, HW0.out.trans HW.out⟩

end Go.Proofs.Ytokhpppealdfmaf
