/-
  The contract of linear.Size.
  The contract of linear.productOfPowers.
  The contract of linear.Image.
  The contract of linear.Fake.
  The contract of linear.Accepts.
  The program's Accept (layer 7).
  Accept (layer 8).
-/
import Derived.Test.YtlnmjbbpenhdbaaGreatKc09
import Derived.Test.YtlnmjbbpenhdbaaGreatKc18
import Derived.Test.YtlnmjbbpenhdbaaGreatKc16
namespace Go.Proofs.YtlnmjbbpenhdbaaGreat
open Go.RowKit

theorem size_no_lens {P Q : Int} {nt : Nat} {T : Nat → Int} {nb : Nat} {L : Nat → Nat} {B : Nat → Nat → Int} (h : lensB nt nb L = false) : sizeN P Q nt T nb L B = 0 :=
  sizeN_no fun hc => by
    obtain ⟨h1, h2, h3, h4, h5, h6⟩ := hc
    have := lensB_iff.2 ⟨⟨h1, h2⟩, h3, fun j hj => (rowsB_iff.1 h6 j (h3 ▸ hj)).2.1, h4, h5⟩
    rw [h] at this
    cases this
theorem size_no_tar {P Q : Int} {nt : Nat} {T : Nat → Int} {nb : Nat} {L : Nat → Nat} {B : Nat → Nat → Int} (h : elB P Q nt T = false) : sizeN P Q nt T nb L B = 0 :=
  sizeN_no fun hc => by
    have := elB_iff.2 fun j hj => (rowsB_iff.1 hc.2.2.2.2.2 j hj).1
    rw [h] at this
    cases this
theorem size_no_row {P Q : Int} {nt : Nat} {T : Nat → Int} {nb : Nat} {L : Nat → Nat} {B : Nat → Nat → Int} {i : Nat} (hi : i < nb) (h : elB P Q (L i) (B i) = false) : sizeN P Q nt T nb L B = 0 :=
  sizeN_no fun hc => by
    have hr := rowsB_iff.1 hc.2.2.2.2.2 i (hc.2.2.1 ▸ hi)
    have : elB P Q (L i) (B i) = true := elB_iff.2 fun j hj => hr.2.2 j (hr.2.1 ▸ hj)
    rw [h] at this
    cases this
theorem size_yes {P Q : Int} {nt : Nat} {T : Nat → Int} {nb : Nat} {L : Nat → Nat} {B : Nat → Nat → Int} (hl : lensB nt nb L = true) (ht : elB P Q nt T = true) (hr : ∀ j, j < nb → elB P Q (L j) (B j) = true) : sizeN P Q nt T nb L B = L 0 := by
  obtain ⟨⟨h1, h2⟩, h3, h4, h5, h6⟩ := lensB_iff.1 hl
  unfold sizeN
  rw [if_pos ⟨h1, h2, h3, h5, h6, rowsB_iff.2 fun j hj => ⟨elB_iff.1 ht j hj, h4 j (h3 ▸ hj), fun i hi => elB_iff.1 (hr j (h3 ▸ hj)) i (by rw [h4 j (h3 ▸ hj)]; exact hi)⟩⟩]

set_option maxRecDepth 100000 in
set_option maxHeartbeats 4000000 in
theorem lsize_gen (P Q G H : Int) (a : Option Addr) (n cap : Nat) (bt : Option Addr) (nt ct : Nat) (T : Nat → Int) (bb : Option Addr) (nb cb : Nat) (BA : Nat → Option Addr) (L C : Nat → Nat) (B : Nat → Nat → Int) (w : World) (h4 : Four P Q G H) (hcl : ClaimIn w bt nt ct T bb nb cb BA L C B) :
    Calls Tryz.prog 36 #[gv P Q G H a n cap, cv bt nt ct bb nb cb] w fun e w' => e = .returned (.int .i64 (sizeN P Q nt T nb L B : Nat)) ∧ Old w w' := by
  have HZ := lain2 w (gc P Q G H a n cap) (cc bt nt ct bb nb cb) 25 50
  have HT : Hid (∀ w', Old ((w.alloc (.cells (gc P Q G H a n cap) 25)).alloc (.cells (cc bt nt ct bb nb cb) 50)) w' → w'.cell? ⟨w.heap.size, 0, none⟩ = some (.int .u64 P) ∧ w'.cell? ⟨w.heap.size, 1, none⟩ = some (.int .u64 Q) ∧ w'.cell? ⟨w.heap.size, 2, none⟩ = some (.int .u64 G) ∧ w'.cell? ⟨w.heap.size, 3, none⟩ = some (.int .u64 H) ∧ w'.cell? ⟨w.heap.size, 4, none⟩ = some (.slice a n cap) ∧ w'.cell? ⟨w.heap.size + 1, 0, none⟩ = some (.slice bt nt ct) ∧ w'.cell? ⟨w.heap.size + 1, 1, none⟩ = some (.slice bb nb cb)) := fun w' ho => by
    have h := HZ.then ho
    exact ⟨h.cell 0 0 (by simp) rfl, h.cell 0 1 (by simp) rfl, h.cell 0 2 (by simp) rfl, h.cell 0 3 (by simp) rfl, h.cell 0 4 (by simp) rfl, h.cell 1 0 (by simp) rfl, h.cell 1 1 (by simp) rfl⟩
  have HLn : Hid (∀ wx, Old w wx → Calls Tryz.prog 96 #[cv bt nt ct bb nb cb] wx fun e w' => e = .returned (.bool (lensB nt nb L)) ∧ Old wx w') := fun wx ho => llens_any bt nt ct T bb nb cb BA L C B wx (hcl.old ho)
  have HTa : Hid (∀ wx, Old w wx → Calls Tryz.prog 97 #[gv P Q G H a n cap, .slice bt nt ct] wx fun e w' => e = .returned (.bool (elB P Q nt T)) ∧ Old wx w') := fun wx ho => lels_any P Q G H a n cap bt nt ct T wx h4 (Nat.le_trans hcl.tc hcl.tm) (hcl.tar.old ho)
  have HB : Hid (ListsIn w bb nb BA L C B) := hcl.bas
  have HRo : Hid (∀ i wx, Old w wx → i < nb → Calls Tryz.prog 97 #[gv P Q G H a n cap, .slice (BA i) (L i) (C i)] wx fun e w' => e = .returned (.bool (elB P Q (L i) (B i))) ∧ Old wx w') := fun i wx ho hi => by
    rcases HB.out with h0 | ⟨bx, ox, hqx, _, hrx⟩
    · omega
    exact lels_any P Q G H a n cap (BA i) (L i) (C i) (B i) wx h4 (Nat.le_trans (hrx i hi).2.1 (hrx i hi).2.2.1) ((hrx i hi).2.2.2.old ho)
  have mb : nb ≤ 9223372036854775807 := Nat.le_trans hcl.bc hcl.bm
  clear h4 hcl
  cases hl : lensB nt nb L with
  | false =>
    have HN : Hid (sizeN P Q nt T nb L B = 0) := size_no_lens hl
    rw [hl] at HLn
    clear hl
    go_enter Tryz.func36, Tryz.ntmps36
    go_upto_region 1 with fail
    have HW0 : Hid (Old w ((w.alloc (.cells (gc P Q G H a n cap) 25)).alloc (.cells (cc bt nt ct bb nb cb) 50))) := HZ.old
    generalize hW : (w.alloc (.cells (gc P Q G H a n cap) 25)).alloc (.cells (cc bt nt ct bb nb cb) 50) = W at *
    clear hW
    obtain ⟨d0, d1, d2, d3, d4, z0, z1⟩ := HT.out _ (Old.refl _)
    go_wp2_with (go_at_call 96; refine (HLn.out _ HW0.out).mono ?_; rintro e w1 ⟨rfl, o1⟩)
    go_ret
    exact ⟨by rw [HN.out]; rfl, HW0.out.trans o1⟩
  | true =>
    cases ht : elB P Q nt T with
    | false =>
      have HN : Hid (sizeN P Q nt T nb L B = 0) := size_no_tar ht
      rw [hl] at HLn
      rw [ht] at HTa
      clear hl ht
      go_enter Tryz.func36, Tryz.ntmps36
      go_upto_region 1 with fail
      have HW0 : Hid (Old w ((w.alloc (.cells (gc P Q G H a n cap) 25)).alloc (.cells (cc bt nt ct bb nb cb) 50))) := HZ.old
      generalize hW : (w.alloc (.cells (gc P Q G H a n cap) 25)).alloc (.cells (cc bt nt ct bb nb cb) 50) = W at *
      clear hW
      obtain ⟨d0, d1, d2, d3, d4, z0, z1⟩ := HT.out _ (Old.refl _)
      go_wp2_with (first
        | (go_at_call 96; refine (HLn.out _ HW0.out).mono ?_; rintro e w1 ⟨rfl, o1⟩; obtain ⟨d0, d1, d2, d3, d4, z0, z1⟩ := HT.out _ o1)
        | (go_at_call 97; refine (HTa.out _ (HW0.out.trans o1)).mono ?_; rintro e w2 ⟨rfl, o2⟩))
      go_ret
      exact ⟨by rw [HN.out]; rfl, (HW0.out.trans o1).trans o2⟩
    | true =>
      have HY : Hid ((∀ j, j < nb → elB P Q (L j) (B j) = true) → sizeN P Q nt T nb L B = L 0) := fun hr => size_yes hl ht hr
      have hpos : 0 < nb := by have := lensB_iff.1 hl; omega
      have hposI : (0 : Int) < (nb : Int) := by omega
      rw [hl] at HLn
      rw [ht] at HTa
      clear hl ht
      have hB := HB.out
      rcases hB with h0 | ⟨bx, ox, hqx, _, hrx⟩
      · omega
      have HR : Hid (∀ w' j, Old w w' → j < nb → w'.cell? ⟨bx, ox + j, none⟩ = some (.slice (BA j) (L j) (C j))) := fun w' j ho hj => ho.cellOf (hrx j hj).1
      clear hrx
      subst hqx
      go_enter Tryz.func36, Tryz.ntmps36
      go_upto_region 1 with fail
      have HW0 : Hid (Old w ((w.alloc (.cells (gc P Q G H a n cap) 25)).alloc (.cells (cc bt nt ct (some ⟨bx, ox, none⟩) nb cb) 50))) := HZ.old
      generalize hW : (w.alloc (.cells (gc P Q G H a n cap) 25)).alloc (.cells (cc bt nt ct (some ⟨bx, ox, none⟩) nb cb) 50) = W at *
      clear hW
      obtain ⟨d0, d1, d2, d3, d4, z0, z1⟩ := HT.out _ (Old.refl _)
      go_upto_region 4 with (first
        | (go_at_call 96; refine (HLn.out _ HW0.out).mono ?_; rintro e w1 ⟨rfl, o1⟩; obtain ⟨d0, d1, d2, d3, d4, z0, z1⟩ := HT.out _ o1)
        | (go_at_call 97; refine (HTa.out _ (HW0.out.trans o1)).mono ?_; rintro e w2 ⟨rfl, o2⟩; obtain ⟨d0, d1, d2, d3, d4, z0, z1⟩ := HT.out _ (o1.trans o2)))
      have HWx : Hid (Old W w2) := o1.trans o2
      clear o1 o2
      go_loopw [20] (fun iv wx => ∃ i : Nat, iv = .int .i64 (i : Int) ∧ i ≤ nb ∧ Hid (∀ j, j < i → elB P Q (L j) (B j) = true) ∧ Hid (Old W wx)) (fun iv _ => nb - (intOf iv).toNat)
      case atStart => exact ⟨0, rfl, Nat.zero_le _, fun j hj => by omega, HWx⟩
      case round =>
        clear d0 d1 d2 d3 d4 z0 z1
        obtain ⟨i, rfl, hi1, HJ, HW⟩ := hrel
        obtain ⟨d0, d1, d2, d3, d4, z0, z1⟩ := HT.out _ HW.out
        by_cases hlt : i < nb
        · have cx := HR.out _ i (HW0.out.trans HW.out) hlt
          have HC : Hid (∀ wx, Old W wx → Calls Tryz.prog 97 #[gv P Q G H a n cap, .slice (BA i) (L i) (C i)] wx fun e w' => e = .returned (.bool (elB P Q (L i) (B i))) ∧ Old wx w') := fun wx ho => HRo.out i wx (HW0.out.trans ho) hlt
          cases hin : elB P Q (L i) (B i) with
          | true =>
            have HM : Hid (elB P Q (L i) (B i) = true) := hin
            rw [hin] at HC
            clear hin
            go_wp2_with (go_at_call 97; refine (HC.out _ HW.out).mono ?_; rintro e w3 ⟨rfl, o3⟩)
            go_roundw
            case rel => exact ⟨i + 1, idx_next i, by omega, upto_succ HJ.out HM.out, HW.out.trans o3⟩
            case measure => simp [intOf]; omega
          | false =>
            have HN : Hid (sizeN P Q nt T nb L B = 0) := size_no_row hlt hin
            rw [hin] at HC
            clear hin
            go_wp2_with (go_at_call 97; refine (HC.out _ HW.out).mono ?_; rintro e w3 ⟨rfl, o3⟩)
            go_ret
            exact ⟨by rw [HN.out]; rfl, (HW0.out.trans HW.out).trans o3⟩
        · have he : nb = i := by omega
          subst he
          have HN : Hid (sizeN P Q nt T nb L B = L 0) := HY.out HJ.out
          have c0 := HR.out _ 0 (HW0.out.trans HW.out) hpos
          rw [Nat.add_zero] at c0
          go_wp2_with fail
          go_ret
          exact ⟨by rw [HN.out]; rfl, HW0.out.trans HW.out⟩

end Go.Proofs.YtlnmjbbpenhdbaaGreat

namespace Go.Proofs.YtlnmjbbpenhdbaaGreat
open Go.RowKit

set_option maxRecDepth 100000 in
set_option maxHeartbeats 4000000 in
theorem lpow_any (P Q G H : Int) (a : Option Addr) (n cap : Nat) (b1 : Option Addr) (n1 c1 : Nat) (B1 : Nat → Int) (b2 : Option Addr) (n2 c2 : Nat) (X : Nat → Int) (w : World) (h4 : Four P Q G H) (hr : Righ P Q G) (m1 : n1 ≤ 80) (hn : n1 = n2) (h1 : FacsIn w b1 n1 B1) (h2 : FacsIn w b2 n2 X) :
    Calls Tryz.prog 100 #[gv P Q G H a n cap, .slice b1 n1 c1, .slice b2 n2 c2] w fun e w' => e = .returned (.int .u64 (imI P Q B1 X n1)) ∧ Old w w' := by
  subst hn
  have HX : Hid (FacsIn w b1 n1 B1) := h1
  have HY : Hid (FacsIn w b2 n1 X) := h2
  have HZ := lain1 w (gc P Q G H a n cap) 25
  obtain ⟨F, hF⟩ : ∃ F : Nat → Int, F = fun k => expI P Q (B1 k) (X k) := ⟨_, rfl⟩
  have H1 : Hid (∀ i wx, i < n1 → Calls Tryz.prog 65 #[gv P Q G H a n cap, .int .u64 (B1 i), .int .u64 (X i)] wx fun r w' => r = .returned (.int .u64 (F i)) ∧ Old wx w') := fun i wx hi => (gexp_any P Q G H (B1 i) (X i) a n cap wx h4 hr (h1.u64 i hi).1 (h1.u64 i hi).2 (h2.u64 i hi).1 (h2.u64 i hi).2).mono fun r w' ⟨h, k⟩ => ⟨by rw [h, hF], k⟩
  have H2 : Hid (∀ b wx, FacsIn wx b n1 F → Calls Tryz.prog 64 #[gv P Q G H a n cap, .slice b n1 n1] wx fun r w' => r = .returned (.int .u64 (imI P Q B1 X n1)) ∧ Old wx w') := fun b wx hf => (gprod_any P Q G H a n cap b n1 n1 F wx h4 hr (Nat.le_refl _) (by omega) hf).mono fun r w' ⟨h, k⟩ => ⟨by rw [h, hF]; rfl, k⟩
  have HU : Hid (∀ k, U64 (F k)) := fun k => by rw [hF]; exact u64_exp _ _ _ _
  generalize imI P Q B1 X n1 = im at *
  clear hF h1 h2 h4 hr
  have hmk := make_run n1 m1
  go_enter Tryz.func100, Tryz.ntmps100
  go_upto_region 1 with fail
  generalize hW : w.alloc (.cells (gc P Q G H a n cap) 25) = W at *
  clear hW
  go_upto_region 2 with fail
  have HFu := full_zero W n1 F
  have HWx : Hid (Old W (W.alloc (.cells (madeCells #[Value.int .u64 0] n1) 22))) := (Old.refl W).alloc _
  have hlt0 : W.heap.size < (W.alloc (.cells (madeCells #[Value.int .u64 0] n1) 22)).heap.size := HFu.lt
  generalize W.alloc (.cells (madeCells #[Value.int .u64 0] n1) 22) = W1 at *
  go_upto_region 3 with fail
  go_loopw [15] (fun iv wx => ∃ i : Nat, iv = .int .i64 (i : Int) ∧ i ≤ n1 ∧ Hid (Full wx W.heap.size n1 (upTo i F)) ∧ Hid (Old W wx)) (fun iv _ => n1 - (intOf iv).toNat)
  case atStart => exact ⟨0, rfl, Nat.zero_le _, HFu, HWx⟩
  case round =>
    obtain ⟨i, rfl, hi1, HN, HW⟩ := hrel
    by_cases hlt : i < n1
    · rcases HX.out with h0 | ⟨bx, ox, hqx, _, hrx⟩
      · omega
      rcases HY.out with h0 | ⟨by_, oy, hqy, _, hry⟩
      · omega
      have HT : Hid (∀ w', Old W w' → w'.cell? ⟨w.heap.size, 0, none⟩ = some (.int .u64 P) ∧ w'.cell? ⟨w.heap.size, 1, none⟩ = some (.int .u64 Q) ∧ w'.cell? ⟨w.heap.size, 2, none⟩ = some (.int .u64 G) ∧ w'.cell? ⟨w.heap.size, 3, none⟩ = some (.int .u64 H) ∧ w'.cell? ⟨w.heap.size, 4, none⟩ = some (.slice a n cap) ∧ w'.cell? ⟨by_, oy + i, none⟩ = some (.int .u64 (X i))) := fun w' ho => ⟨(HZ.then ho).cell 0 0 (by simp) rfl, (HZ.then ho).cell 0 1 (by simp) rfl, (HZ.then ho).cell 0 2 (by simp) rfl, (HZ.then ho).cell 0 3 (by simp) rfl, (HZ.then ho).cell 0 4 (by simp) rfl, (HZ.old.trans ho).cellOf (hry i hlt).1⟩
      have cx := (HZ.old.trans HW.out).cellOf (hrx i hlt).1
      clear hrx hry
      subst hqx hqy
      obtain ⟨d0, d1, d2, d3, d4, cy⟩ := HT.out _ HW.out
      have HM : Hid (∀ wx, Calls Tryz.prog 65 #[gv P Q G H a n cap, .int .u64 (B1 i), .int .u64 (X i)] wx fun r w' => r = .returned (.int .u64 (F i)) ∧ Old wx w') := fun wx => H1.out i wx hlt
      go_upto_region 5 with fail
      go_region_held3 (fun w' => w'.cell? ⟨w.heap.size, 0, none⟩ = some (.int .u64 P) ∧ w'.cell? ⟨w.heap.size, 1, none⟩ = some (.int .u64 Q) ∧ w'.cell? ⟨w.heap.size, 2, none⟩ = some (.int .u64 G) ∧ w'.cell? ⟨w.heap.size, 3, none⟩ = some (.int .u64 H) ∧ w'.cell? ⟨w.heap.size, 4, none⟩ = some (.slice a n cap) ∧ w'.cell? ⟨by_, oy + i, none⟩ = some (.int .u64 (X i))) (first | exact HT.out _ (h4.setCell (Nat.le_refl _) _) | exact HT.out _ h4 | exact HT.out _ HW.out.drew) (first
        | (go_at_call 65; refine (HM.out _).mono ?_; rintro e w4 ⟨rfl, o4⟩; have h4 : Old W w4 := HW.out.drew.trans o4; have hful := HN.out.old ((Old.refl wr).drew.trans o4); have q0 := hful.cell i hlt; have f0 := hful.free i))
      have HG : Hid (Full (w4.setCell ⟨W.heap.size, i, none⟩ (.int .u64 (F i))) W.heap.size n1 (upTo (i + 1) F)) := hful.next
      have HG2 : Hid (Old W (w4.setCell ⟨W.heap.size, i, none⟩ (.int .u64 (F i)))) := h4.setCell (Nat.le_refl _) _
      go_wp2_with fail
      go_roundw
      case rel => exact ⟨i + 1, idx_next i, by omega, HG, HG2⟩
      case measure => simp [intOf]; omega
    · have he : n1 = i := by omega
      subst he
      have d0 := (HZ.then HW.out).cell 0 0 (by simp) rfl
      have d1 := (HZ.then HW.out).cell 0 1 (by simp) rfl
      have d2 := (HZ.then HW.out).cell 0 2 (by simp) rfl
      have d3 := (HZ.then HW.out).cell 0 3 (by simp) rfl
      have d4 := (HZ.then HW.out).cell 0 4 (by simp) rfl
      simp only [Nat.add_zero] at d0 d1 d2 d3 d4
      have HP : Hid (Calls Tryz.prog 64 #[gv P Q G H a n cap, .slice (some ⟨W.heap.size, 0, none⟩) n1 n1] wr fun r w' => r = .returned (.int .u64 im) ∧ Old wr w') := H2.out _ _ (HN.out.done.facs fun k _ => HU.out k)
      go_wp2_with (go_at_call 64; refine HP.out.mono ?_; rintro e w5 ⟨rfl, o5⟩)
      go_ret
      exact ⟨rfl, (HZ.old.trans HW.out).trans o5⟩

end Go.Proofs.YtlnmjbbpenhdbaaGreat

namespace Go.Proofs.YtlnmjbbpenhdbaaGreat
open Go.RowKit

/-- A new list that is held whole, and whether there is one. -/
def GivesF (w : World) (ok : Bool) (k : Nat) (F : Nat → Int) (r : Ending) (w' : World) : Prop :=
  Old w w' ∧ ((ok = false ∧ r = .returned (.tuple #[.slice none 0 0, .bool false])) ∨ (ok = true ∧ ∃ b, w.heap.size ≤ b ∧ r = .returned (.tuple #[.slice (some ⟨b, 0, none⟩) k k, .bool true]) ∧ Full w' b k F))
theorem GivesF.gives {w w' : World} {ok : Bool} {k : Nat} {F : Nat → Int} {r : Ending} (h : GivesF w ok k F r w') (hk : k ≤ 9223372036854775807) : Gives w ok k F r w' := by
  obtain ⟨ho, ⟨h1, rfl⟩ | ⟨h1, b, hb, rfl, hF⟩⟩ := h
  · exact gives_no h1 ho
  · exact gives_yes h1 (hF.nums hb hk) ho

set_option linter.unusedSimpArgs false in
set_option maxRecDepth 100000 in
set_option maxHeartbeats 8000000 in
theorem limage_gen (P Q G H : Int) (a : Option Addr) (n cap : Nat) (bt : Option Addr) (nt ct : Nat) (T : Nat → Int) (bb : Option Addr) (nb cb : Nat) (BA : Nat → Option Addr) (L C : Nat → Nat) (B : Nat → Nat → Int) (bz : Option Addr) (nz cz : Nat) (X : Nat → Int) (w : World) (h4 : Four P Q G H) (hr : Righ P Q G) (hC : ClaimIn w bt nt ct T bb nb cb BA L C B) (hX : FacsIn w bz nz X) :
    Calls Tryz.prog 42 #[gv P Q G H a n cap, cv bt nt ct bb nb cb, .slice bz nz cz] w (GivesF w (fitsB (sizeN P Q nt T nb L B) nz) nt (fun j => imI P Q (B j) X (sizeN P Q nt T nb L B))) := by
  have HZ := lain2 w (gc P Q G H a n cap) (cc bt nt ct bb nb cb) 25 50
  have HT : Hid (∀ w', Old ((w.alloc (.cells (gc P Q G H a n cap) 25)).alloc (.cells (cc bt nt ct bb nb cb) 50)) w' → w'.cell? ⟨w.heap.size, 0, none⟩ = some (.int .u64 P) ∧ w'.cell? ⟨w.heap.size, 1, none⟩ = some (.int .u64 Q) ∧ w'.cell? ⟨w.heap.size, 2, none⟩ = some (.int .u64 G) ∧ w'.cell? ⟨w.heap.size, 3, none⟩ = some (.int .u64 H) ∧ w'.cell? ⟨w.heap.size, 4, none⟩ = some (.slice a n cap) ∧ w'.cell? ⟨w.heap.size + 1, 0, none⟩ = some (.slice bt nt ct) ∧ w'.cell? ⟨w.heap.size + 1, 1, none⟩ = some (.slice bb nb cb)) := fun w' ho => by
    have h := HZ.then ho
    exact ⟨h.cell 0 0 (by simp) rfl, h.cell 0 1 (by simp) rfl, h.cell 0 2 (by simp) rfl, h.cell 0 3 (by simp) rfl, h.cell 0 4 (by simp) rfl, h.cell 1 0 (by simp) rfl, h.cell 1 1 (by simp) rfl⟩
  have HS : Hid (∀ wx, Old w wx → Calls Tryz.prog 36 #[gv P Q G H a n cap, cv bt nt ct bb nb cb] wx fun e w' => e = .returned (.int .i64 (sizeN P Q nt T nb L B : Nat)) ∧ Old wx w') := fun wx ho => lsize_gen P Q G H a n cap bt nt ct T bb nb cb BA L C B wx h4 (hC.old ho)
  have hcl := sizeN_claim (P := P) (Q := Q) (nt := nt) (T := T) (nb := nb) (L := L) (B := B)
  have HB : Hid (ListsIn w bb nb BA L C B) := hC.bas
  generalize sizeN P Q nt T nb L B = sz at *
  obtain ⟨F, hF⟩ : ∃ F : Nat → Int, F = fun j => imI P Q (B j) X sz := ⟨_, rfl⟩
  rw [← hF]
  have HPw : Hid (∀ i wx, Old w wx → i < nb → L i = nz → nz = sz → nz ≤ 80 → Calls Tryz.prog 100 #[gv P Q G H a n cap, .slice (BA i) (L i) (C i), .slice bz nz cz] wx fun r w' => r = .returned (.int .u64 (F i)) ∧ Old wx w') := fun i wx ho hi hL hz hm =>
    (lpow_any P Q G H a n cap (BA i) (L i) (C i) (B i) bz nz cz X wx h4 hr (by omega) hL ((HB.out.facs hi).old ho) (hX.old ho)).mono fun r w' ⟨h, k⟩ => ⟨by rw [h, hF, hL, hz], k⟩
  clear hF h4 hr hC hX
  by_cases hs0 : sz = 0
  · have HN : Hid (fitsB sz nz = false) := no_of fun h => (fitsB_iff.1 h).1 hs0
    have k1 : (sz : Int) = 0 := by omega
    clear hcl hs0
    go_enter Tryz.func42, Tryz.ntmps42
    go_upto_region 1 with fail
    have HW0 : Hid (Old w ((w.alloc (.cells (gc P Q G H a n cap) 25)).alloc (.cells (cc bt nt ct bb nb cb) 50))) := HZ.old
    generalize hW : (w.alloc (.cells (gc P Q G H a n cap) 25)).alloc (.cells (cc bt nt ct bb nb cb) 50) = W at *
    clear hW
    obtain ⟨d0, d1, d2, d3, d4, z0, z1⟩ := HT.out _ (Old.refl _)
    go_wp2_with (go_at_call 36; refine (HS.out _ HW0.out).mono ?_; rintro e w2 ⟨rfl, h2⟩)
    go_ret2
    exact ⟨HW0.out.trans h2, Or.inl ⟨HN.out, rfl⟩⟩
  by_cases hnw : nz = sz
  · have hcl := hcl hs0
    subst hnw
    have HN : Hid (fitsB nz nz = true) := fitsB_iff.2 ⟨hs0, rfl⟩
    have HP : Hid (∀ i wx, Old w wx → i < nb → Calls Tryz.prog 100 #[gv P Q G H a n cap, .slice (BA i) (L i) (C i), .slice bz nz cz] wx fun r w' => r = .returned (.int .u64 (F i)) ∧ Old wx w') := fun i wx ho hi => HPw.out i wx ho hi (hcl.len i (hcl.nb ▸ hi)) rfl (by have := hcl.n64; omega)
    have HNB : Hid (nb = nt) := hcl.nb
    have m1 : nb ≤ 80 := by have := hcl.nb; have := hcl.t64; omega
    have hpos : 0 < nb := by have := hcl.nb; have := hcl.t1; omega
    have k1 : ¬ (nz : Int) = 0 := by omega
    have k3 : ((nz : Int) == 0) = false := by simp; omega
    clear hcl HPw hs0
    rcases HB.out with h0 | ⟨bx, ox, hqx, _, hrx⟩
    · omega
    have HR : Hid (∀ w' j, Old w w' → j < nb → w'.cell? ⟨bx, ox + j, none⟩ = some (.slice (BA j) (L j) (C j))) := fun w' j ho hj => ho.cellOf (hrx j hj).1
    clear hrx
    subst hqx
    have hmk := make_run nb m1
    go_enter Tryz.func42, Tryz.ntmps42
    go_upto_region 1 with fail
    have HW0 : Hid (Old w ((w.alloc (.cells (gc P Q G H a n cap) 25)).alloc (.cells (cc bt nt ct (some ⟨bx, ox, none⟩) nb cb) 50))) := HZ.old
    generalize hW : (w.alloc (.cells (gc P Q G H a n cap) 25)).alloc (.cells (cc bt nt ct (some ⟨bx, ox, none⟩) nb cb) 50) = W at *
    clear hW
    obtain ⟨d0, d1, d2, d3, d4, z0, z1⟩ := HT.out _ (Old.refl _)
    go_upto_region 4 with (go_at_call 36; refine (HS.out _ HW0.out).mono ?_; rintro e w2 ⟨rfl, h2⟩; obtain ⟨d0, d1, d2, d3, d4, z0, z1⟩ := HT.out _ h2)
    go_upto_region 5 with fail
    have HFu := full_zero w2 nb F
    have HWx : Hid (Old W (w2.alloc (.cells (madeCells #[Value.int .u64 0] nb) 22))) := h2.alloc _
    have hlt0 : w2.heap.size < (w2.alloc (.cells (madeCells #[Value.int .u64 0] nb) 22)).heap.size := HFu.lt
    generalize w2.alloc (.cells (madeCells #[Value.int .u64 0] nb) 22) = W1 at *
    clear d0 d1 d2 d3 d4 z0 z1
    obtain ⟨d0, d1, d2, d3, d4, z0, z1⟩ := HT.out _ HWx.out
    have hsz := h2.size
    go_upto_region 6 with fail
    clear d0 d1 d2 d3 d4 z0 z1
    go_loopw [30] (fun iv wx => ∃ i : Nat, iv = .int .i64 (i : Int) ∧ i ≤ nb ∧ Hid (Full wx w2.heap.size nb (upTo i F)) ∧ Hid (Old W wx)) (fun iv _ => nb - (intOf iv).toNat)
    case atStart => exact ⟨0, rfl, Nat.zero_le _, HFu, HWx⟩
    case round =>
      obtain ⟨i, rfl, hi1, HNu, HW⟩ := hrel
      by_cases hlt : i < nb
      · obtain ⟨d0, d1, d2, d3, d4, z0, z1⟩ := HT.out _ HW.out
        have cx := HR.out _ i (HW0.out.trans HW.out) hlt
        have HC : Hid (Calls Tryz.prog 100 #[gv P Q G H a n cap, .slice (BA i) (L i) (C i), .slice bz nz cz] wr fun r w' => r = .returned (.int .u64 (F i)) ∧ Old wr w') := HP.out i wr (HW0.out.trans HW.out) hlt
        go_wp2_with (go_at_call 100; refine HC.out.mono ?_; rintro e w4 ⟨rfl, o4⟩; have h4 : Old W w4 := HW.out.trans o4; have hful := HNu.out.old o4; have q0 := hful.cell i hlt; have f0 := hful.free i)
        have HG : Hid (Full (w4.setCell ⟨w2.heap.size, i, none⟩ (.int .u64 (F i))) w2.heap.size nb (upTo (i + 1) F)) := hful.next
        have HG2 : Hid (Old W (w4.setCell ⟨w2.heap.size, i, none⟩ (.int .u64 (F i)))) := h4.setCell hsz _
        go_roundw
        case rel => exact ⟨i + 1, idx_next i, by omega, HG, HG2⟩
        case measure => simp [intOf]; omega
      · have he : nb = i := by omega
        subst he
        have HD : Hid (Full wr w2.heap.size nb F) := HNu.out.done
        go_wp2_with fail
        go_ret2
        have hnb := HNB.out
        refine ⟨HW0.out.trans HW.out, Or.inr ⟨HN.out, w2.heap.size, Nat.le_trans HW0.out.size hsz, ?_, ?_⟩⟩
        · rw [← hnb]; rfl
        · rw [← hnb]; exact HD.out
  · have HN : Hid (fitsB sz nz = false) := no_of fun h => hnw (fitsB_iff.1 h).2
    have k1 : ¬ (sz : Int) = 0 := by omega
    have k2 : ¬ (nz : Int) = (sz : Int) := by omega
    have k3 : ((sz : Int) == 0) = false := by simp; omega
    have k4 : ((nz : Int) != (sz : Int)) = true := by simp; omega
    have k5 : ((nz : Int) == (sz : Int)) = false := by simp; omega
    clear hcl hs0
    go_enter Tryz.func42, Tryz.ntmps42
    go_upto_region 1 with fail
    have HW0 : Hid (Old w ((w.alloc (.cells (gc P Q G H a n cap) 25)).alloc (.cells (cc bt nt ct bb nb cb) 50))) := HZ.old
    generalize hW : (w.alloc (.cells (gc P Q G H a n cap) 25)).alloc (.cells (cc bt nt ct bb nb cb) 50) = W at *
    clear hW
    obtain ⟨d0, d1, d2, d3, d4, z0, z1⟩ := HT.out _ (Old.refl _)
    go_wp2_with (go_at_call 36; refine (HS.out _ HW0.out).mono ?_; rintro e w2 ⟨rfl, h2⟩)
    go_ret2
    exact ⟨HW0.out.trans h2, Or.inl ⟨HN.out, rfl⟩⟩

end Go.Proofs.YtlnmjbbpenhdbaaGreat

namespace Go.Proofs.YtlnmjbbpenhdbaaGreat
open Go.RowKit

/-- Turned up to i, as it was behind. -/
def fromTo (i : Nat) (F O : Nat → Int) : Nat → Int := fun k => if k < i then O k else F k
theorem fromTo_at (i : Nat) (F O : Nat → Int) : fromTo i F O i = F i := by simp [fromTo]
theorem Full.start {w : World} {b n : Nat} {F : Nat → Int} (O : Nat → Int) (h : Full w b n F) : Full w b n (fromTo 0 F O) := h.congr fun k _ => by simp [fromTo]
theorem Full.step {w : World} {b n i : Nat} {F O : Nat → Int} (h : Full w b n (fromTo i F O)) : Full (w.setCell ⟨b, i, none⟩ (.int .u64 (O i))) b n (fromTo (i + 1) F O) :=
  (h.set i (O i)).congr fun k _ => by
    unfold fromTo
    by_cases hk : k = i
    · subst hk; simp
    · rw [if_neg hk]
      by_cases h2 : k < i
      · rw [if_pos h2, if_pos (by omega)]
      · rw [if_neg h2, if_neg (by omega)]
theorem Full.at {w : World} {b n i : Nat} {F O : Nat → Int} (h : Full w b n (fromTo i F O)) (hi : i < n) : w.cell? ⟨b, i, none⟩ = some (.int .u64 (F i)) := by
  have := h.cell i hi
  rwa [fromTo_at] at this

end Go.Proofs.YtlnmjbbpenhdbaaGreat

namespace Go.Proofs.YtlnmjbbpenhdbaaGreat
open Go.RowKit

set_option linter.unusedSimpArgs false in
set_option maxRecDepth 100000 in
set_option maxHeartbeats 8000000 in
theorem laccepts_gen (P Q G H : Int) (a : Option Addr) (n cap : Nat) (bt : Option Addr) (nt ct : Nat) (T : Nat → Int) (bb : Option Addr) (nb cb : Nat) (BA : Nat → Option Addr) (L C : Nat → Nat) (B : Nat → Nat → Int) (bk : Option Addr) (nk ck : Nat) (K : Nat → Int) (ch : Int) (bz : Option Addr) (nz cz : Nat) (X : Nat → Int) (w : World) (h4 : Four P Q G H) (hr : Righ P Q G) (he : U64 ch) (mk : nk ≤ 9223372036854775807) (hC : ClaimIn w bt nt ct T bb nb cb BA L C B) (hK : FacsIn w bk nk K) (hX : FacsIn w bz nz X) :
    Calls Tryz.prog 45 #[gv P Q G H a n cap, cv bt nt ct bb nb cb, .slice bk nk ck, .int .u64 ch, .slice bz nz cz] w fun e w' => e = .returned (.bool (accB P Q nt T nb L B nk K ch nz X)) ∧ Old w w' := by
  have HZ := lain2 w (gc P Q G H a n cap) (cc bt nt ct bb nb cb) 25 50
  have HT : Hid (∀ w', Old ((w.alloc (.cells (gc P Q G H a n cap) 25)).alloc (.cells (cc bt nt ct bb nb cb) 50)) w' → w'.cell? ⟨w.heap.size, 0, none⟩ = some (.int .u64 P) ∧ w'.cell? ⟨w.heap.size, 1, none⟩ = some (.int .u64 Q) ∧ w'.cell? ⟨w.heap.size, 2, none⟩ = some (.int .u64 G) ∧ w'.cell? ⟨w.heap.size, 3, none⟩ = some (.int .u64 H) ∧ w'.cell? ⟨w.heap.size, 4, none⟩ = some (.slice a n cap) ∧ w'.cell? ⟨w.heap.size + 1, 0, none⟩ = some (.slice bt nt ct) ∧ w'.cell? ⟨w.heap.size + 1, 1, none⟩ = some (.slice bb nb cb)) := fun w' ho => by
    have h := HZ.then ho
    exact ⟨h.cell 0 0 (by simp) rfl, h.cell 0 1 (by simp) rfl, h.cell 0 2 (by simp) rfl, h.cell 0 3 (by simp) rfl, h.cell 0 4 (by simp) rfl, h.cell 1 0 (by simp) rfl, h.cell 1 1 (by simp) rfl⟩
  have HC : Hid (FacsIn w bt nt T) := hC.tar
  have HKK : Hid (FacsIn w bk nk K) := hK
  have HIm : Hid (∀ wx, Old w wx → Calls Tryz.prog 42 #[gv P Q G H a n cap, cv bt nt ct bb nb cb, .slice bz nz cz] wx (GivesF wx (fitsB (sizeN P Q nt T nb L B) nz) nt (fun j => imI P Q (B j) X (sizeN P Q nt T nb L B)))) := fun wx ho => limage_gen P Q G H a n cap bt nt ct T bb nb cb BA L C B bz nz cz X wx h4 hr (hC.old ho) (hX.old ho)
  have mt : nt ≤ 9223372036854775807 := Nat.le_trans hC.tc hC.tm
  obtain ⟨F, hF⟩ : ∃ F : Nat → Int, F = fun j => imI P Q (B j) X (sizeN P Q nt T nb L B) := ⟨_, rfl⟩
  obtain ⟨E, hE⟩ : ∃ E : Nat → Int, E = fun j => expI P Q (T j) ch := ⟨_, rfl⟩
  obtain ⟨M, hM⟩ : ∃ M : Nat → Int, M = fun j => mulI (K j) (E j) P := ⟨_, rfl⟩
  have HYES : Hid (fitsB (sizeN P Q nt T nb L B) nz = true → nk = nt → elB P Q nk K = true → (∀ j, j < nt → F j = M j) → accB P Q nt T nb L B nk K ch nz X = true) := fun h1 h2 h3 h5 => accB_iff.2 ⟨h1, h2, fun j hj => ⟨elB_iff.1 h3 j (h2 ▸ hj), by have := h5 j hj; rw [hF, hM, hE] at this; exact this⟩⟩
  have HNO : Hid ((fitsB (sizeN P Q nt T nb L B) nz = true → nk = nt → elB P Q nk K = true → (∀ j, j < nt → F j = M j) → False) → accB P Q nt T nb L B nk K ch nz X = false) := fun h => no_of fun hc => by
    obtain ⟨h1, h2, h3⟩ := accB_iff.1 hc
    exact h h1 h2 (elB_iff.2 fun j hj => (h3 j (h2 ▸ hj)).1) fun j hj => by rw [hF, hM, hE]; exact (h3 j hj).2
  rw [← hF] at HIm
  have HNT : Hid (fitsB (sizeN P Q nt T nb L B) nz = true → 0 < nt) := fun h => (sizeN_claim (fitsB_iff.1 h).1).t1
  have HEl : Hid (∀ wx, Old w wx → Calls Tryz.prog 97 #[gv P Q G H a n cap, .slice bk nk ck] wx fun e w' => e = .returned (.bool (elB P Q nk K)) ∧ Old wx w') := fun wx ho => lels_any P Q G H a n cap bk nk ck K wx h4 mk (hK.old ho)
  have HEx : Hid (∀ j wx, j < nt → Calls Tryz.prog 65 #[gv P Q G H a n cap, .int .u64 (T j), .int .u64 ch] wx fun e w' => e = .returned (.int .u64 (E j)) ∧ Old wx w') := fun j wx hj => (gexp_any P Q G H (T j) ch a n cap wx h4 hr (hC.tar.u64 j hj).1 (hC.tar.u64 j hj).2 he.1 he.2).mono fun e w' ⟨h, k⟩ => ⟨by rw [h, hE], k⟩
  have HPr : Hid (∀ (j : Nat) (wx : World) (t : TypeId), j < nk → Calls Tryz.prog 64 #[gv P Q G H a n cap, .slice (some ⟨wx.heap.size, 0, none⟩) 2 2] (wx.alloc (.cells #[.int .u64 (K j), .int .u64 (E j)] t)) fun r w' => r = .returned (.int .u64 (M j)) ∧ Old (wx.alloc (.cells #[.int .u64 (K j), .int .u64 (E j)] t)) w') :=
    fun j wx t hj => by
      have hu : U64 (E j) := by rw [hE]; exact u64_exp _ _ _ _
      have hf := facs_two wx (K j) (E j) t (hK.u64 j hj) hu
      have hm : mulI (K j) (E j) P = M j := by rw [hM]
      have hp := prod5 hr (K j) (E j)
      generalize two5 (K j) (E j) = F2 at *
      have hg := gprod_any P Q G H a n cap (some ⟨wx.heap.size, 0, none⟩) 2 2 F2 _ h4 hr (by decide) (by decide) hf
      rw [hp, hm] at hg
      exact hg
  clear hM hE hF h4 hr he hC hK hX
  generalize accB P Q nt T nb L B nk K ch nz X = R at *
  generalize fitsB (sizeN P Q nt T nb L B) nz = ok at *
  cases ok with
  | false =>
    have HN : Hid (R = false) := HNO.out fun h _ _ _ => by cases h
    go_enter Tryz.func45, Tryz.ntmps45
    go_upto_region 1 with fail
    have HW0 : Hid (Old w ((w.alloc (.cells (gc P Q G H a n cap) 25)).alloc (.cells (cc bt nt ct bb nb cb) 50))) := HZ.old
    generalize hW : (w.alloc (.cells (gc P Q G H a n cap) 25)).alloc (.cells (cc bt nt ct bb nb cb) 50) = W at *
    clear hW
    obtain ⟨d0, d1, d2, d3, d4, t0, t1⟩ := HT.out _ (Old.refl _)
    go_upto_region 2 with (go_at_call 42; refine (HIm.out _ HW0.out).mono ?_; rintro e w2 ⟨h2, ⟨_, rfl⟩ | ⟨hno, _⟩⟩; rotate_left; exact absurd hno (by decide))
    clear d0 d1 d2 d3 d4 t0 t1
    go_wp2_with fail
    go_ret
    exact ⟨ret_bool HN.out.symm, HW0.out.trans h2⟩
  | true =>
    have hpos := HNT.out (by trivial)
    by_cases hnk : nk = nt
    · cases hel : elB P Q nk K with
      | false =>
        have HN : Hid (R = false) := HNO.out fun _ _ h _ => by rw [hel] at h; cases h
        rw [hel] at HEl
        have k1 : (nk : Int) = (nt : Int) := by omega
        have k4 : ((nk : Int) != (nt : Int)) = false := by simp; omega
        clear hel HYES HNO hnk
        go_enter Tryz.func45, Tryz.ntmps45
        go_upto_region 1 with fail
        have HW0 : Hid (Old w ((w.alloc (.cells (gc P Q G H a n cap) 25)).alloc (.cells (cc bt nt ct bb nb cb) 50))) := HZ.old
        generalize hW : (w.alloc (.cells (gc P Q G H a n cap) 25)).alloc (.cells (cc bt nt ct bb nb cb) 50) = W at *
        clear hW
        obtain ⟨d0, d1, d2, d3, d4, t0, t1⟩ := HT.out _ (Old.refl _)
        go_upto_region 2 with (go_at_call 42; refine (HIm.out _ HW0.out).mono ?_; rintro e w2 ⟨h2, ⟨hno, _⟩ | ⟨_, bf, hbf, rfl, hff⟩⟩; exact absurd hno (by decide))
        clear d0 d1 d2 d3 d4 t0 t1
        obtain ⟨d0, d1, d2, d3, d4, t0, t1⟩ := HT.out _ h2
        go_wp2_with (go_at_call 97; refine (HEl.out _ (HW0.out.trans h2)).mono ?_; rintro e w3 ⟨rfl, h3⟩)
        go_ret
        exact ⟨ret_bool HN.out.symm, (HW0.out.trans h2).trans h3⟩
      | true =>
        have HYE : Hid ((∀ j, j < nt → F j = M j) → R = true) := fun h => HYES.out (by trivial) hnk hel h
        have HNE : Hid (∀ j, j < nt → ¬ F j = M j → R = false) := fun j hj hne => HNO.out fun _ _ _ h => hne (h j hj)
        rw [hel] at HEl
        clear hel HYES HNO
        subst hnk
        rcases HC.out with h0 | ⟨tb, tof, hqt, _, hrt⟩
        · omega
        rcases HKK.out with h0 | ⟨kb, ko, hqk, _, hrk⟩
        · omega
        subst hqt hqk
        have HRT : Hid (∀ j, j < nk → ∀ w', Old w w' → w'.cell? ⟨tb, tof + j, none⟩ = some (.int .u64 (T j))) := fun j hj w' ho => ho.cellOf (hrt j hj).1
        have HRK : Hid (∀ j, j < nk → ∀ w', Old w w' → w'.cell? ⟨kb, ko + j, none⟩ = some (.int .u64 (K j))) := fun j hj w' ho => ho.cellOf (hrk j hj).1
        clear hrt hrk
        go_enter Tryz.func45, Tryz.ntmps45
        go_upto_region 1 with fail
        have HW0 : Hid (Old w ((w.alloc (.cells (gc P Q G H a n cap) 25)).alloc (.cells (cc (some ⟨tb, tof, none⟩) nk ct bb nb cb) 50))) := HZ.old
        generalize hW : (w.alloc (.cells (gc P Q G H a n cap) 25)).alloc (.cells (cc (some ⟨tb, tof, none⟩) nk ct bb nb cb) 50) = W at *
        clear hW
        obtain ⟨d0, d1, d2, d3, d4, t0, t1⟩ := HT.out _ (Old.refl _)
        go_upto_region 2 with (go_at_call 42; refine (HIm.out _ HW0.out).mono ?_; rintro e w2 ⟨h2, ⟨hno, _⟩ | ⟨_, bf, hbf, rfl, hff⟩⟩; exact absurd hno (by decide))
        clear d0 d1 d2 d3 d4 t0 t1
        obtain ⟨d0, d1, d2, d3, d4, t0, t1⟩ := HT.out _ h2
        go_upto_region 4 with (go_at_call 97; refine (HEl.out _ (HW0.out.trans h2)).mono ?_; rintro e w3 ⟨rfl, h3⟩)
        have HRF : Hid (∀ j, j < nk → ∀ w', Old w2 w' → w'.cell? ⟨bf, j, none⟩ = some (.int .u64 (F j))) := fun j hj w' ho => ho.cellOf (hff.cell j hj)
        have HW2 : Hid (Old W w2) := h2
        have HW3 : Hid (Old w2 w3) := h3
        clear d0 d1 d2 d3 d4 t0 t1 hff h2 h3
        obtain ⟨d0, d1, d2, d3, d4, t0, t1⟩ := HT.out _ (HW2.out.trans HW3.out)
        go_upto_region 5 with fail
        clear d0 d1 d2 d3 d4 t0 t1
        go_loopw [40] (fun iv wx => ∃ i : Nat, iv = .int .i64 (i : Int) ∧ i ≤ nk ∧ Hid (∀ j, j < i → F j = M j) ∧ Hid (Old w2 wx)) (fun iv _ => nk - (intOf iv).toNat)
        case atStart => exact ⟨0, rfl, Nat.zero_le _, fun j hj => by omega, HW3⟩
        case round =>
          obtain ⟨i, rfl, hi1, HJ, HW⟩ := hrel
          by_cases hlt : i < nk
          · have HT2 : Hid (∀ w', Old w2 w' → w'.cell? ⟨w.heap.size, 0, none⟩ = some (.int .u64 P) ∧ w'.cell? ⟨w.heap.size, 1, none⟩ = some (.int .u64 Q) ∧ w'.cell? ⟨w.heap.size, 2, none⟩ = some (.int .u64 G) ∧ w'.cell? ⟨w.heap.size, 3, none⟩ = some (.int .u64 H) ∧ w'.cell? ⟨w.heap.size, 4, none⟩ = some (.slice a n cap) ∧ w'.cell? ⟨bf, i, none⟩ = some (.int .u64 (F i)) ∧ w'.cell? ⟨kb, ko + i, none⟩ = some (.int .u64 (K i))) := fun w' ho => by
              obtain ⟨d0, d1, d2, d3, d4, t0, t1⟩ := HT.out _ (HW2.out.trans ho)
              exact ⟨d0, d1, d2, d3, d4, HRF.out i hlt _ ho, HRK.out i hlt _ ((HW0.out.trans HW2.out).trans ho)⟩
            obtain ⟨d0, d1, d2, d3, d4, cf1, ck1⟩ := HT2.out _ HW.out
            have cx := HRT.out i hlt _ ((HW0.out.trans HW2.out).trans HW.out)
            have HM : Hid (∀ wx, Calls Tryz.prog 65 #[gv P Q G H a n cap, .int .u64 (T i), .int .u64 ch] wx fun r w' => r = .returned (.int .u64 (E i)) ∧ Old wx w') := fun wx => HEx.out i wx hlt
            have HV : Hid (∀ (wx : World) (t : TypeId), Calls Tryz.prog 64 #[gv P Q G H a n cap, .slice (some ⟨wx.heap.size, 0, none⟩) 2 2] (wx.alloc (.cells #[.int .u64 (K i), .int .u64 (E i)] t)) fun r w' => r = .returned (.int .u64 (M i)) ∧ Old (wx.alloc (.cells #[.int .u64 (K i), .int .u64 (E i)] t)) w') := fun wx t => HPr.out i wx t hlt
            by_cases heq : F i = M i
            · have HQ : Hid (F i = M i) := heq
              rw [← heq] at HV
              clear heq
              go_upto_region 7 with fail
              go_region_held3 (fun w' => w'.cell? ⟨w.heap.size, 0, none⟩ = some (.int .u64 P) ∧ w'.cell? ⟨w.heap.size, 1, none⟩ = some (.int .u64 Q) ∧ w'.cell? ⟨w.heap.size, 2, none⟩ = some (.int .u64 G) ∧ w'.cell? ⟨w.heap.size, 3, none⟩ = some (.int .u64 H) ∧ w'.cell? ⟨w.heap.size, 4, none⟩ = some (.slice a n cap) ∧ w'.cell? ⟨bf, i, none⟩ = some (.int .u64 (F i)) ∧ w'.cell? ⟨kb, ko + i, none⟩ = some (.int .u64 (K i))) (first | exact HT2.out _ h5 | exact HT2.out _ (h4.alloc _) | exact HT2.out _ h4 | exact HT2.out _ HW.out.drew) (first
                | (go_at_call 65; refine (HM.out _).mono ?_; rintro e w4 ⟨rfl, o4⟩; have h4 : Old w2 w4 := HW.out.drew.trans o4)
                | (go_at_call 64; refine (HV.out _ _).mono ?_; rintro e w5 ⟨rfl, o5⟩; have h5 : Old w2 w5 := (h4.alloc _).trans o5))
              go_wp2_with fail
              go_roundw
              case rel => exact ⟨i + 1, idx_next i, by omega, upto_succ HJ.out HQ.out, h5⟩
              case measure => simp [intOf]; omega
            · have HN : Hid (R = false) := HNE.out i hlt heq
              go_upto_region 7 with fail
              go_region_held3 (fun w' => w'.cell? ⟨w.heap.size, 0, none⟩ = some (.int .u64 P) ∧ w'.cell? ⟨w.heap.size, 1, none⟩ = some (.int .u64 Q) ∧ w'.cell? ⟨w.heap.size, 2, none⟩ = some (.int .u64 G) ∧ w'.cell? ⟨w.heap.size, 3, none⟩ = some (.int .u64 H) ∧ w'.cell? ⟨w.heap.size, 4, none⟩ = some (.slice a n cap) ∧ w'.cell? ⟨bf, i, none⟩ = some (.int .u64 (F i)) ∧ w'.cell? ⟨kb, ko + i, none⟩ = some (.int .u64 (K i))) (first | exact HT2.out _ h5 | exact HT2.out _ (h4.alloc _) | exact HT2.out _ h4 | exact HT2.out _ HW.out.drew) (first
                | (go_at_call 65; refine (HM.out _).mono ?_; rintro e w4 ⟨rfl, o4⟩; have h4 : Old w2 w4 := HW.out.drew.trans o4)
                | (go_at_call 64; refine (HV.out _ _).mono ?_; rintro e w5 ⟨rfl, o5⟩; have h5 : Old w2 w5 := (h4.alloc _).trans o5))
              go_wp2_with fail
              go_ret
              exact ⟨ret_bool HN.out.symm, (HW0.out.trans HW2.out).trans h5⟩
          · have hei : nk = i := by omega
            subst hei
            have HN : Hid (R = true) := HYE.out HJ.out
            go_wp2_with fail
            go_ret
            exact ⟨ret_bool HN.out.symm, (HW0.out.trans HW2.out).trans HW.out⟩
    · have HN : Hid (R = false) := HNO.out fun _ h _ _ => hnk h
      have k1 : ¬ (nk : Int) = (nt : Int) := by omega
      have k4 : ((nk : Int) != (nt : Int)) = true := by simp; omega
      have k5 : ((nk : Int) == (nt : Int)) = false := by simp; omega
      clear HYES HNO
      go_enter Tryz.func45, Tryz.ntmps45
      go_upto_region 1 with fail
      have HW0 : Hid (Old w ((w.alloc (.cells (gc P Q G H a n cap) 25)).alloc (.cells (cc bt nt ct bb nb cb) 50))) := HZ.old
      generalize hW : (w.alloc (.cells (gc P Q G H a n cap) 25)).alloc (.cells (cc bt nt ct bb nb cb) 50) = W at *
      clear hW
      obtain ⟨d0, d1, d2, d3, d4, t0, t1⟩ := HT.out _ (Old.refl _)
      go_upto_region 2 with (go_at_call 42; refine (HIm.out _ HW0.out).mono ?_; rintro e w2 ⟨h2, ⟨hno, _⟩ | ⟨_, bf, hbf, rfl, hff⟩⟩; exact absurd hno (by decide))
      clear d0 d1 d2 d3 d4 t0 t1
      go_wp2_with fail
      go_ret
      exact ⟨ret_bool HN.out.symm, HW0.out.trans h2⟩

end Go.Proofs.YtlnmjbbpenhdbaaGreat

namespace Go.Proofs.YtlnmjbbpenhdbaaGreat
open Go.RowKit

set_option linter.unusedSimpArgs false in
set_option maxRecDepth 100000 in
set_option maxHeartbeats 8000000 in
theorem paccept7_any (label : List Int) (P Q G H : Int) (a : Option Addr) (n cap : Nat) (bt : Option Addr) (nt ct : Nat) (T : Nat → Int) (bb : Option Addr) (nb cb : Nat) (BA : Nat → Option Addr) (L C : Nat → Nat) (B : Nat → Nat → Int) (bk : Option Addr) (nk ck : Nat) (K : Nat → Int) (bz : Option Addr) (nz cz : Nat) (X : Nat → Int) (w : World) (h4 : Four P Q G H) (hr : Righ P Q G) (hlb : Bts label) (hll : label.length ≤ 1000) (mt : nt ≤ 80) (mb : nb ≤ 80) (mL : ∀ j, j < nb → L j ≤ 80) (mk : nk ≤ 80) (hC : ClaimIn w bt nt ct T bb nb cb BA L C B) (hK : FacsIn w bk nk K) (hX : FacsIn w bz nz X) :
    Calls Tryz.prog 94 #[gv P Q G H a n cap, .string (strOfNums label), cv bt nt ct bb nb cb, cv bk nk ck bz nz cz] w fun e w' => e = .returned (.bool (accB P Q nt T nb L B nk K (chI label P Q G H nt T nb L B nk K) nz X)) ∧ Old w w' := by
  have HZ := lain3 w (gc P Q G H a n cap) (cc bt nt ct bb nb cb) (cc bk nk ck bz nz cz) 25 50 55
  have HT : Hid (∀ w', Old (((w.alloc (.cells (gc P Q G H a n cap) 25)).alloc (.cells (cc bt nt ct bb nb cb) 50)).alloc (.cells (cc bk nk ck bz nz cz) 55)) w' → w'.cell? ⟨w.heap.size, 0, none⟩ = some (.int .u64 P) ∧ w'.cell? ⟨w.heap.size, 1, none⟩ = some (.int .u64 Q) ∧ w'.cell? ⟨w.heap.size, 2, none⟩ = some (.int .u64 G) ∧ w'.cell? ⟨w.heap.size, 3, none⟩ = some (.int .u64 H) ∧ w'.cell? ⟨w.heap.size, 4, none⟩ = some (.slice a n cap) ∧ w'.cell? ⟨w.heap.size + 1, 0, none⟩ = some (.slice bt nt ct) ∧ w'.cell? ⟨w.heap.size + 1, 1, none⟩ = some (.slice bb nb cb) ∧ w'.cell? ⟨w.heap.size + 1 + 1, 0, none⟩ = some (.slice bk nk ck) ∧ w'.cell? ⟨w.heap.size + 1 + 1, 1, none⟩ = some (.slice bz nz cz)) := fun w' ho => by
    have h := HZ.then ho
    exact ⟨h.cell 0 0 (by simp) rfl, h.cell 0 1 (by simp) rfl, h.cell 0 2 (by simp) rfl, h.cell 0 3 (by simp) rfl, h.cell 0 4 (by simp) rfl, h.cell 1 0 (by simp) rfl, h.cell 1 1 (by simp) rfl, h.cell 2 0 (by simp) rfl, h.cell 2 1 (by simp) rfl⟩
  have HCh : Hid (∀ wx, Old w wx → Calls Tryz.prog 129 #[gv P Q G H a n cap, .string (strOfNums label), cv bt nt ct bb nb cb, .slice bk nk ck] wx fun e w' => e = .returned (.int .u64 (chI label P Q G H nt T nb L B nk K)) ∧ Old wx w') := fun wx ho => pchal_any label P Q G H a n cap bt nt ct T bb nb cb BA L C B bk nk ck K wx h4 hlb hll mt mb mL mk (hC.old ho) (hK.old ho)
  have hcu := ch_u64 label P Q G H nt T nb L B nk K
  generalize chI label P Q G H nt T nb L B nk K = ch at *
  have HAc : Hid (∀ wx, Old w wx → Calls Tryz.prog 45 #[gv P Q G H a n cap, cv bt nt ct bb nb cb, .slice bk nk ck, .int .u64 ch, .slice bz nz cz] wx fun e w' => e = .returned (.bool (accB P Q nt T nb L B nk K ch nz X)) ∧ Old wx w') := fun wx ho => laccepts_gen P Q G H a n cap bt nt ct T bb nb cb BA L C B bk nk ck K ch bz nz cz X wx h4 hr hcu (by omega) (hC.old ho) (hK.old ho) (hX.old ho)
  have HSz : Hid (∀ wx, Old w wx → Calls Tryz.prog 36 #[gv P Q G H a n cap, cv bt nt ct bb nb cb] wx fun e w' => e = .returned (.int .i64 (sizeN P Q nt T nb L B : Nat)) ∧ Old wx w') := fun wx ho => lsize_gen P Q G H a n cap bt nt ct T bb nb cb BA L C B wx h4 (hC.old ho)
  have HN : Hid (¬ (sizeN P Q nt T nb L B ≠ 0 ∧ nk = nt) → accB P Q nt T nb L B nk K ch nz X = false) := fun hno => by
    refine Bool.eq_false_iff.2 fun hyes => hno ?_
    have h := accB_iff.1 hyes
    exact ⟨(fitsB_iff.1 h.1).1, h.2.1⟩
  have hszb := sizeN_le P Q nt T nb L B
  generalize accB P Q nt T nb L B nk K ch nz X = R at *
  clear h4 hr hlb hll mb mL hC hK hX hcu
  generalize sizeN P Q nt T nb L B = sz at *
  have HW0 : Hid (Old w (((w.alloc (.cells (gc P Q G H a n cap) 25)).alloc (.cells (cc bt nt ct bb nb cb) 50)).alloc (.cells (cc bk nk ck bz nz cz) 55))) := HZ.old
  by_cases hz : sz = 0
  · subst hz
    have HS0 : Hid (∀ wx, Old w wx → Calls Tryz.prog 36 #[gv P Q G H a n cap, cv bt nt ct bb nb cb] wx fun e w' => e = .returned (.int .i64 0) ∧ Old wx w') := HSz
    clear HSz
    have HN' : Hid (R = false) := HN.out fun h => h.1 rfl
    go_enter Tryz.func94, Tryz.ntmps94
    go_upto_region 1 with fail
    generalize hW : (((w.alloc (.cells (gc P Q G H a n cap) 25)).alloc (.cells (cc bt nt ct bb nb cb) 50)).alloc (.cells (cc bk nk ck bz nz cz) 55)) = W at *
    clear hW
    obtain ⟨d0, d1, d2, d3, d4, z0, z1, y0, y1⟩ := HT.out _ (Old.refl _)
    go_wp2_with (go_at_call 36; refine (HS0.out _ HW0.out).mono ?_; rintro e w2 ⟨rfl, h2⟩; clear d0 d1 d2 d3 d4 z0 z1 y0 y1; obtain ⟨d0, d1, d2, d3, d4, z0, z1, y0, y1⟩ := HT.out _ h2)
    go_ret
    exact ⟨by rw [HN'.out]; rfl, HW0.out.trans h2⟩
  have k1 : ¬ (sz : Int) = 0 := by omega
  have k2 : ((sz : Int) == 0) = false := by simp; omega
  by_cases hk : nk = nt
  · have k3 : ((nk : Int) != (nt : Int)) = false := by simp; omega
    clear hk
    go_enter Tryz.func94, Tryz.ntmps94
    go_upto_region 1 with fail
    generalize hW : (((w.alloc (.cells (gc P Q G H a n cap) 25)).alloc (.cells (cc bt nt ct bb nb cb) 50)).alloc (.cells (cc bk nk ck bz nz cz) 55)) = W at *
    clear hW
    obtain ⟨d0, d1, d2, d3, d4, z0, z1, y0, y1⟩ := HT.out _ (Old.refl _)
    go_upto_region 3 with (go_at_call 36; refine (HSz.out _ HW0.out).mono ?_; rintro e w2 ⟨rfl, h2⟩; clear d0 d1 d2 d3 d4 z0 z1 y0 y1; obtain ⟨d0, d1, d2, d3, d4, z0, z1, y0, y1⟩ := HT.out _ h2)
    have hd : Old W w2.drew := h2.drew
    go_region_held3 (fun w' => w'.cell? ⟨w.heap.size, 0, none⟩ = some (.int .u64 P) ∧ w'.cell? ⟨w.heap.size, 1, none⟩ = some (.int .u64 Q) ∧ w'.cell? ⟨w.heap.size, 2, none⟩ = some (.int .u64 G) ∧ w'.cell? ⟨w.heap.size, 3, none⟩ = some (.int .u64 H) ∧ w'.cell? ⟨w.heap.size, 4, none⟩ = some (.slice a n cap) ∧ w'.cell? ⟨w.heap.size + 1, 0, none⟩ = some (.slice bt nt ct) ∧ w'.cell? ⟨w.heap.size + 1, 1, none⟩ = some (.slice bb nb cb) ∧ w'.cell? ⟨w.heap.size + 1 + 1, 0, none⟩ = some (.slice bk nk ck) ∧ w'.cell? ⟨w.heap.size + 1 + 1, 1, none⟩ = some (.slice bz nz cz)) (first | exact HT.out _ h5 | exact HT.out _ h4 | exact HT.out _ hd) (first
      | (go_at_call 129; refine (HCh.out _ (HW0.out.trans hd)).mono ?_; rintro e w4 ⟨rfl, o4⟩; have h4 : Old W w4 := hd.trans o4)
      | (go_at_call 45; refine (HAc.out _ (HW0.out.trans h4)).mono ?_; rintro e w5 ⟨rfl, o5⟩; have h5 : Old W w5 := h4.trans o5))
    go_wp2_with fail
    go_ret
    exact ⟨rfl, HW0.out.trans h5⟩
  · have HN' : Hid (R = false) := HN.out fun h => hk h.2
    have k3 : ¬ (nk : Int) = (nt : Int) := by omega
    have k4 : ((nk : Int) != (nt : Int)) = true := by simp; omega
    have k5 : ((nk : Int) == (nt : Int)) = false := by simp; omega
    go_enter Tryz.func94, Tryz.ntmps94
    go_upto_region 1 with fail
    generalize hW : (((w.alloc (.cells (gc P Q G H a n cap) 25)).alloc (.cells (cc bt nt ct bb nb cb) 50)).alloc (.cells (cc bk nk ck bz nz cz) 55)) = W at *
    clear hW
    obtain ⟨d0, d1, d2, d3, d4, z0, z1, y0, y1⟩ := HT.out _ (Old.refl _)
    go_wp2_with (go_at_call 36; refine (HSz.out _ HW0.out).mono ?_; rintro e w2 ⟨rfl, h2⟩; clear d0 d1 d2 d3 d4 z0 z1 y0 y1; obtain ⟨d0, d1, d2, d3, d4, z0, z1, y0, y1⟩ := HT.out _ h2)
    go_ret
    exact ⟨by rw [HN'.out]; rfl, HW0.out.trans h2⟩

end Go.Proofs.YtlnmjbbpenhdbaaGreat

namespace Go.Proofs.YtlnmjbbpenhdbaaGreat
open Go.RowKit
set_option linter.unusedSimpArgs false
set_option linter.unusedVariables false

theorem GivD.made {w w' : World} {nt : Nat} {T : Nat → Int} {L : Nat → Nat} {B : Nat → Nat → Int} {r : Ending} (h : GivD w true nt T L B r w') (hT : ∀ j, j < nt → U64 (T j)) (hB : ∀ j, j < nt → ∀ i, i < L j → U64 (B j i)) : ∃ bt ct bb cb BA C, r = .returned (.tuple #[cv bt nt ct bb nt cb, .bool true]) ∧ Old w w' ∧ ClaimIn w' bt nt ct T bb nt cb BA L C B := by
  obtain ⟨ho, v, u, rfl, h1, h2⟩ := h
  obtain ⟨bt, ct, rfl, q1, q2, hf⟩ := Nums.facs2 (k := nt) h1 hT
  obtain ⟨bb, cb, BA, C, rfl, q3, q4, hl⟩ := Rws.lists (nb := nt) h2 hB
  exact ⟨bt, ct, bb, cb, BA, C, rfl, ho, q1, q2, q3, q4, hf, hl⟩
theorem GivD.none {w w' : World} {nt : Nat} {T : Nat → Int} {L : Nat → Nat} {B : Nat → Nat → Int} {r : Ending} (h : GivD w false nt T L B r w') : ∃ bt nt' ct bb nb cb, r = .returned (.tuple #[cv bt nt' ct bb nb cb, .bool false]) ∧ Old w w' := by
  obtain ⟨ho, v, u, rfl, h1, h2⟩ := h
  obtain ⟨bt, ct, rfl⟩ := own_slice8 h1
  obtain ⟨bb, cb, rfl⟩ := own_slice8 h2.choose_spec.choose_spec.1
  exact ⟨_, _, _, _, _, _, rfl, ho⟩
theorem u64_tgt {P Q G X Y Z : Int} {n : Nat} {A B Pp : Nat → Int} {Ui Vi : Nat → Nat → Int} (hA : ∀ i, i < n → U64 (A i)) (hB : ∀ i, i < n → U64 (B i)) (hP : ∀ i, i < n → U64 (Pp i)) (j : Nat) : U64 (tgtT P Q G X Y Z n A B Pp Ui Vi j) := by
  unfold tgtT tgt8
  split
  · exact hA _ (by omega)
  · split
    · exact hB _ (by omega)
    · split
      · exact u64_over _ _ _
      · split
        · exact hP _ (by omega)
        · split
          · exact u64_over _ _ _
          · unfold uvI; split <;> exact prodI_bd _ _ _
theorem u64_bas {G H y : Int} {n : Nat} {Pp : Nat → Int} {O : Nat → Nat → Int} (hG : U64 G) (hH : U64 H) (hy : U64 y) (hP : ∀ i, i < n → U64 (Pp i)) (hO : ∀ i k, i < n → k < 6 → U64 (O i k)) (j : Nat) (hj : j < 4 * n + 6) (k : Nat) : U64 (bas8 n Pp G H y (fun j w => O j (2 * w)) (fun j w => O j (2 * w + 1)) j k) := by
  have h1 : U64 1 := ⟨by decide, by decide⟩
  have r2 : ∀ p x q z, U64 x → U64 z → U64 (row28 p x q z k) := fun p x q z hx hz => by unfold row28; split; exact hx; split; exact hz; exact h1
  unfold bas8
  split
  · exact r2 _ _ _ _ hG hH
  · split
    · exact r2 _ _ _ _ hG hH
    · split
      · exact r2 _ _ _ _ hG hH
      · split
        · exact r2 _ _ _ _ (hP _ (by omega)) hH
        · split
          · unfold row18; split; exact hH; exact h1
          · split
            · unfold rowS8; split; exact hO _ _ (by omega) (by omega); split; exact hG; exact h1
            · unfold rowS8; split; exact hO _ _ (by omega) (by omega); split; exact hy; exact h1
/-- Is it accepted? -/
def accS (P Q G H : Int) (label : List Int) (y : Int) (n : Nat) (C O : Nat → Nat → Int) (A B Pp : Nat → Int) (nk : Nat) (K : Nat → Int) (nz : Nat) (Xz : Nat → Int) (Xc Yc Zc : Int) : Bool :=
  clmB P Q G y n C n O n A n B n Pp Yc Zc && accB P Q (4 * n + 6) (tgtT P Q G Xc Yc Zc n A B Pp (fun j w => C j (2 * w)) (fun j w => C j (2 * w + 1))) (4 * n + 6) (fun _ => 7 * n + 3) (bas8 n Pp G H y (fun j w => O j (2 * w)) (fun j w => O j (2 * w + 1))) nk K (chI label P Q G H (4 * n + 6) (tgtT P Q G Xc Yc Zc n A B Pp (fun j w => C j (2 * w)) (fun j w => C j (2 * w + 1))) (4 * n + 6) (fun _ => 7 * n + 3) (bas8 n Pp G H y (fun j w => O j (2 * w)) (fun j w => O j (2 * w + 1))) nk K) nz Xz
set_option maxRecDepth 100000 in
set_option maxHeartbeats 16000000 in
theorem lacc_any (P Q G H : Int) (a : Option Addr) (m cap : Nat) (label : List Int) (y : Int) (bi : Option Addr) (ci : Nat) (C : Nat → Nat → Int) (bo : Option Addr) (co : Nat) (O : Nat → Nat → Int) (ba : Option Addr) (ca : Nat) (A : Nat → Int) (bb : Option Addr) (cb : Nat) (B : Nat → Int) (bp : Option Addr) (cp : Nat) (Pp : Nat → Int) (bk : Option Addr) (nk ck : Nat) (K : Nat → Int) (bz : Option Addr) (nz cz : Nat) (Xz : Nat → Int) (n : Nat) (Xc Yc Zc : Int) (w : World) (h1n : 0 < n) (hn : n ≤ 8) (h4 : Four P Q G H) (hr : Righ P Q G) (hy : U64 y) (hlb : Bts label) (hll : label.length ≤ 1000) (hca : n ≤ ca ∧ ca ≤ 9223372036854775807) (hcb : n ≤ cb ∧ cb ≤ 9223372036854775807) (mk : nk ≤ 80) (hC : BoxsIn w bi n C) (hO : BoxsIn w bo n O) (hA : FacsIn w ba n A) (hB : FacsIn w bb n B) (hP : FacsIn w bp n Pp) (hK : FacsIn w bk nk K) (hX : FacsIn w bz nz Xz)
    (hXc : Xc = chX label Q (knwS P Q G H y n C n O) n A) (hYc : Yc = chYZ 121 label Q (knwS P Q G H y n C n O) n A B) (hZc : Zc = chYZ 122 label Q (knwS P Q G H y n C n O) n A B) :
    Calls Tryz.prog 34 #[gv P Q G H a m cap, .string (strOfNums label), .int .u64 y, .slice bi n ci, .slice bo n co, .agg #[.slice ba n ca, .slice bb n cb, .slice bp n cp, .slice bk nk ck, .slice bz nz cz]] w (Ret w (.bool (accS P Q G H label y n C O A B Pp nk K nz Xz Xc Yc Zc))) := by
  have uX : U64 Xc := by rw [hXc]; exact u64_number _ _ _ _
  have uY : U64 Yc := by rw [hYc]; exact u64_number _ _ _ _
  have uZ : U64 Zc := by rw [hZc]; exact u64_number _ _ _ _
  have HSz : Hid (∀ wx, Calls Tryz.prog 79 #[.slice bi n ci, .slice bo n co, tk ba n ca 0 bb n cb 0 0 bp n cp] wx (Ret wx (.bool true))) := fun wx => by
    have := ssizes_any bi n ci bo n co ba n ca 0 bb n cb 0 0 bp n cp wx (by omega)
    rwa [show fitB n n n n n = true from fitB_iff.2 ⟨⟨h1n, hn⟩, rfl, rfl, rfl, rfl⟩] at this
  obtain ⟨S, hS⟩ : ∃ S, S = knwS P Q G H y n C n O := ⟨_, rfl⟩
  have HAs : Hid (∀ wx, Old w wx → Calls Tryz.prog 89 #[gv P Q G H a m cap, .string (strOfNums label), .int .u64 y, .slice bi n ci, .slice bo n co] wx fun e w' => Old wx w' ∧ ∃ kb sb lb qb, e = .returned (askV kb lb qb) ∧ AskIn w' kb sb lb qb S label Q) := fun wx ho => by rw [hS]; exact sasker_any P Q G H a m cap label y bi n ci C bo n co O wx h4 hy (by omega) (by omega) (hC.old ho) (hO.old ho)
  have hSb : ∀ i, i < 3 → Bts (S i) := by rw [hS]; exact knwS_bd _ _ _ _ _ _ _ _ _
  have hSl : ∀ i, (S i).length ≤ 640 := by rw [hS]; exact knwS_len _ _ _ _ _ _ _ hn hn
  have HX1 : Hid (∀ (wx : World) (b kb sb lb qb : Nat), Old w wx → AskIn wx kb sb lb qb S label Q → wx.heap[b]? = some (.cells #[.slice ba n ca] 29 (0, 0)) → Calls Tryz.prog 127 #[.string (strOfNums [120]), .slice (some ⟨b, 0, none⟩) 1 1, .pointer (some ⟨kb, 0, none⟩), .pointer (some ⟨lb, 0, none⟩), .pointer (some ⟨qb, 0, none⟩)] wx (Ret wx (.int .u64 Xc))) := fun wx b kb sb lb qb ho hk hb => by
    rw [hXc, ← hS]
    exact sak_any [120] label S Q kb sb lb qb _ 1 1 _ _ _ _ wx (by intro x hx; simp at hx; subst hx; decide) (by simp) hSb hSl hlb hll (by omega) (fun j _ => by show n ≤ 80; omega) hk.k hk.s hk.l hk.g (lists_one hb hca.1 hca.2 (hA.old ho))
  have HX2 : Hid (∀ (c : Int) (wx : World) (b kb sb lb qb : Nat), 0 ≤ c → c ≤ 255 → Old w wx → AskIn wx kb sb lb qb S label Q → wx.heap[b]? = some (.cells #[.slice ba n ca, .slice bb n cb] 29 (0, 0)) → Calls Tryz.prog 127 #[.string (strOfNums [c]), .slice (some ⟨b, 0, none⟩) 2 2, .pointer (some ⟨kb, 0, none⟩), .pointer (some ⟨lb, 0, none⟩), .pointer (some ⟨qb, 0, none⟩)] wx (Ret wx (.int .u64 (chYZ c label Q S n A B)))) := fun c wx b kb sb lb qb h0 h1 ho hk hb =>
    sak_any [c] label S Q kb sb lb qb _ 2 2 _ _ _ _ wx (by intro x hx; simp at hx; subst hx; exact ⟨h0, by omega⟩) (by simp) hSb hSl hlb hll (by omega) (fun j hj => by match j, hj with | 0, _ => (show n ≤ 80; omega) | 1, _ => (show n ≤ 80; omega)) hk.k hk.s hk.l hk.g (lists_two hb hca.1 hca.2 hcb.1 hcb.2 (hA.old ho) (hB.old ho))
  have hTu : ∀ j, U64 ((tgtT P Q G Xc Yc Zc n A B Pp (fun j w => C j (2 * w)) (fun j w => C j (2 * w + 1))) j) := u64_tgt (fun i hi => hA.u64 i hi) (fun i hi => hB.u64 i hi) (fun i hi => hP.u64 i hi)
  have hBu : ∀ j, j < 4 * n + 6 → ∀ k, U64 ((bas8 n Pp G H y (fun j w => O j (2 * w)) (fun j w => O j (2 * w + 1))) j k) := u64_bas ⟨h4.g0, h4.g1⟩ ⟨h4.h0, h4.h1⟩ hy (fun i hi => hP.u64 i hi) (fun i k hi hk => hO.u64 hi hk)
  have HCl : Hid (∀ wx, Old w wx → Calls Tryz.prog 28 #[gv P Q G H a m cap, .int .u64 y, .slice bi n ci, .slice bo n co, tk ba n ca Xc bb n cb Yc Zc bp n cp] wx (GivD wx (clmB P Q G y n C n O n A n B n Pp Yc Zc) (4 * n + 6) ((tgtT P Q G Xc Yc Zc n A B Pp (fun j w => C j (2 * w)) (fun j w => C j (2 * w + 1)))) (fun _ => 7 * n + 3) ((bas8 n Pp G H y (fun j w => O j (2 * w)) (fun j w => O j (2 * w + 1)))))) := fun wx ho => sclaim_any P Q G H a m cap y bi n ci C bo n co O ba n ca A Xc bb n cb B Yc Zc bp n cp Pp wx (by omega) h4 hr hy uX uY uZ (hC.old ho) (hO.old ho) (hA.old ho) (hB.old ho) (hP.old ho)
  obtain ⟨acc, hacc⟩ : ∃ acc, acc = accB P Q (4 * n + 6) ((tgtT P Q G Xc Yc Zc n A B Pp (fun j w => C j (2 * w)) (fun j w => C j (2 * w + 1)))) (4 * n + 6) (fun _ => 7 * n + 3) ((bas8 n Pp G H y (fun j w => O j (2 * w)) (fun j w => O j (2 * w + 1)))) nk K (chI label P Q G H (4 * n + 6) ((tgtT P Q G Xc Yc Zc n A B Pp (fun j w => C j (2 * w)) (fun j w => C j (2 * w + 1)))) (4 * n + 6) (fun _ => 7 * n + 3) ((bas8 n Pp G H y (fun j w => O j (2 * w)) (fun j w => O j (2 * w + 1)))) nk K) nz Xz := ⟨_, rfl⟩
  have HAc : Hid (∀ wx bt ct b2 c2 BA Cc, Old w wx → ClaimIn wx bt (4 * n + 6) ct ((tgtT P Q G Xc Yc Zc n A B Pp (fun j w => C j (2 * w)) (fun j w => C j (2 * w + 1)))) b2 (4 * n + 6) c2 BA (fun _ => 7 * n + 3) Cc ((bas8 n Pp G H y (fun j w => O j (2 * w)) (fun j w => O j (2 * w + 1)))) → Calls Tryz.prog 94 #[gv P Q G H a m cap, .string (strOfNums label), cv bt (4 * n + 6) ct b2 (4 * n + 6) c2, cv bk nk ck bz nz cz] wx (Ret wx (.bool acc))) := fun wx bt ct b2 c2 BA Cc ho hc => by
    rw [hacc]
    exact paccept7_any label P Q G H a m cap bt (4 * n + 6) ct _ b2 (4 * n + 6) c2 BA _ Cc _ bk nk ck K bz nz cz Xz wx h4 hr hlb hll (by omega) (by omega) (fun j _ => by show 7 * n + 3 ≤ 80; omega) mk hc (hK.old ho) (hX.old ho)
  have HV : Hid (accS P Q G H label y n C O A B Pp nk K nz Xz Xc Yc Zc = (clmB P Q G y n C n O n A n B n Pp Yc Zc && acc)) := by unfold Hid accS; rw [hacc]
  rw [HV.out]
  rw [← hS] at hYc hZc
  generalize clmB P Q G y n C n O n A n B n Pp Yc Zc = ok at *
  generalize (tgtT P Q G Xc Yc Zc n A B Pp (fun j w => C j (2 * w)) (fun j w => C j (2 * w + 1))) = Tg at *
  generalize (bas8 n Pp G H y (fun j w => O j (2 * w)) (fun j w => O j (2 * w + 1))) = Bg at *
  have HTu : Hid (∀ j, U64 (Tg j)) := hTu
  have HBu : Hid (∀ j, j < 4 * n + 6 → ∀ k, U64 (Bg j k)) := hBu
  have HYc : Hid (chYZ 121 label Q S n A B = Yc) := hYc.symm
  have HZc : Hid (chYZ 122 label Q S n A B = Zc) := hZc.symm
  clear h4 hr hy hlb hll hca hcb mk hC hO hA hB hP hK hX hXc hYc hZc uX uY uZ hSb hSl hS hTu hBu hacc HV
  have HZ := lain2 w (gc P Q G H a m cap) #[.slice ba n ca, .slice bb n cb, .slice bp n cp, .slice bk nk ck, .slice bz nz cz] 25 57
  have HG0 := fun w' ho => (HZ.then (W' := w') ho).row 0 (by simp)
  have HT0 := fun w' ho => (HZ.then (W' := w') ho).row 1 (by simp)
  have HW0 : Hid (Old w ((w.alloc (.cells (gc P Q G H a m cap) 25)).alloc (.cells #[.slice ba n ca, .slice bb n cb, .slice bp n cp, .slice bk nk ck, .slice bz nz cz] 57))) := HZ.old
  clear HZ
  go_enter Tryz.func34, Tryz.ntmps34
  go_upto_region 1 with fail
  generalize (w.alloc (.cells (gc P Q G H a m cap) 25)).alloc (.cells #[.slice ba n ca, .slice bb n cb, .slice bp n cp, .slice bk nk ck, .slice bz nz cz] 57) = W1 at *
  have HG : Hid (∀ wx, Old W1 wx → wx.heap[w.heap.size]? = some (.cells (gc P Q G H a m cap) 25 (0, 0))) := HG0
  have HS1 : Hid (∀ wx, Old W1 wx → wx.heap[w.heap.size + 1]? = some (.cells #[.slice ba n ca, .slice bb n cb, .slice bp n cp, .slice bk nk ck, .slice bz nz cz] 57 (0, 0))) := HT0
  clear HG0 HT0
  obtain ⟨gb, hgb⟩ : ∃ gb, gb = w.heap.size := ⟨_, rfl⟩
  rw [← hgb] at HG HS1
  rw [← hgb]
  clear hgb
  have HGc : Hid (∀ wx, Old W1 wx → wx.cell? ⟨gb, 0, none⟩ = some (.int .u64 P) ∧ wx.cell? ⟨gb, 1, none⟩ = some (.int .u64 Q) ∧ wx.cell? ⟨gb, 2, none⟩ = some (.int .u64 G) ∧ wx.cell? ⟨gb, 3, none⟩ = some (.int .u64 H) ∧ wx.cell? ⟨gb, 4, none⟩ = some (.slice a m cap)) := fun wx ho => ⟨cell_of_row _ _ 0 _ _ (0, 0) (HG.out _ ho), cell_of_row _ _ 1 _ _ (0, 0) (HG.out _ ho), cell_of_row _ _ 2 _ _ (0, 0) (HG.out _ ho), cell_of_row _ _ 3 _ _ (0, 0) (HG.out _ ho), cell_of_row _ _ 4 _ _ (0, 0) (HG.out _ ho)⟩
  have HSc : Hid (∀ wx, Old W1 wx → wx.cell? ⟨gb + 1, 0, none⟩ = some (.slice ba n ca) ∧ wx.cell? ⟨gb + 1, 1, none⟩ = some (.slice bb n cb) ∧ wx.cell? ⟨gb + 1, 2, none⟩ = some (.slice bp n cp) ∧ wx.cell? ⟨gb + 1, 3, none⟩ = some (.slice bk nk ck) ∧ wx.cell? ⟨gb + 1, 4, none⟩ = some (.slice bz nz cz)) := fun wx ho => ⟨cell_of_row _ _ 0 _ _ (0, 0) (HS1.out _ ho), cell_of_row _ _ 1 _ _ (0, 0) (HS1.out _ ho), cell_of_row _ _ 2 _ _ (0, 0) (HS1.out _ ho), cell_of_row _ _ 3 _ _ (0, 0) (HS1.out _ ho), cell_of_row _ _ 4 _ _ (0, 0) (HS1.out _ ho)⟩
  clear HG HS1
  obtain ⟨s0, s1, s2, s3, s4⟩ := HSc.out _ (Old.refl _)
  have HO2 : Hid (Old W1 (W1.alloc (.cells (tkc ba n ca 0 bb n cb 0 0 bp n cp) 41))) := (Old.refl _).alloc _
  have HR2 : Hid ((W1.alloc (.cells (tkc ba n ca 0 bb n cb 0 0 bp n cp) 41)).heap[W1.heap.size]? = some (.cells (tkc ba n ca 0 bb n cb 0 0 bp n cp) 41 (0, 0))) := heap_alloc_last _ _
  go_upto_region 2 with fail
  clear s0 s1 s2 s3 s4
  generalize W1.alloc (.cells (tkc ba n ca 0 bb n cb 0 0 bp n cp) 41) = W2 at *
  obtain ⟨tb, htb⟩ : ∃ tb, tb = W1.heap.size := ⟨_, rfl⟩
  rw [← htb] at HR2
  rw [← htb]
  have Htb : Hid (W1.heap.size ≤ tb) := by unfold Hid; omega
  clear htb
  have HTc : Hid (∀ wx, Old W2 wx → wx.cell? ⟨tb, 0, none⟩ = some (.slice ba n ca) ∧ wx.cell? ⟨tb, 1, none⟩ = some (.int .u64 0) ∧ wx.cell? ⟨tb, 2, none⟩ = some (.slice bb n cb) ∧ wx.cell? ⟨tb, 3, none⟩ = some (.int .u64 0) ∧ wx.cell? ⟨tb, 4, none⟩ = some (.int .u64 0) ∧ wx.cell? ⟨tb, 5, none⟩ = some (.slice bp n cp)) := fun wx ho => by
    have hrow := (ho.block _ (obj_lt HR2.out)).trans HR2.out
    exact ⟨cell_of_row _ _ 0 _ _ (0, 0) hrow, cell_of_row _ _ 1 _ _ (0, 0) hrow, cell_of_row _ _ 2 _ _ (0, 0) hrow, cell_of_row _ _ 3 _ _ (0, 0) hrow, cell_of_row _ _ 4 _ _ (0, 0) hrow, cell_of_row _ _ 5 _ _ (0, 0) hrow⟩
  obtain ⟨t0, t1, t2, t3, t4, t5⟩ := HTc.out _ (Old.refl _)
  go_upto_region 4 with (go_at_call 79; refine (HSz.out _).mono ?_; rintro e w3 ⟨rfl, o3⟩)
  clear t0 t1 t2 t3 t4 t5 HTc
  have HO3 : Hid (Old W1 w3) := HO2.out.trans o3
  obtain ⟨g0, g1, g2, g3, g4⟩ := HGc.out _ HO3.out
  go_upto_region 5 with (go_at_call 89; refine (HAs.out _ (HW0.out.trans HO3.out)).mono ?_; rintro e w4 ⟨o4, kb, sb, lb, qb, rfl, hask⟩)
  clear g0 g1 g2 g3 g4
  have HAk : Hid (∀ wx, Old w4 wx → AskIn wx kb sb lb qb S label Q) := fun wx ho => hask.old ho
  have HO4 : Hid (Old W1 w4) := HO3.out.trans o4
  have HR4 : Hid (w4.heap[tb]? = some (.cells (tkc ba n ca 0 bb n cb 0 0 bp n cp) 41 (0, 0))) := ((o3.trans o4).block _ (obj_lt HR2.out)).trans HR2.out
  have HTr : Hid (∀ wx, Old w4 wx → wx.heap[tb]? = some (.cells (tkc ba n ca 0 bb n cb 0 0 bp n cp) 41 (0, 0))) := fun wx ho => (ho.block _ (obj_lt HR4.out)).trans HR4.out
  clear hask o3 o4 HO3 HR2 HO2 HSz HAs
  refine wp_region_tab 20 [.k (askV kb lb qb), .k (.pointer (some ⟨tb, 0, none⟩)), .k (.slice ba n ca), blkE 1 #[.slice ba n ca] 29, .k (.int .u64 Xc), .k (askV kb lb qb), .k (.pointer (some ⟨tb, 0, none⟩)), .k (.slice ba n ca), .k (.pointer (some ⟨tb, 2, none⟩)), .k (.slice bb n cb), blkE 2 #[.slice ba n ca, .slice bb n cb] 29, .k (.int .u64 Yc), .k (askV kb lb qb), .k (.pointer (some ⟨tb, 0, none⟩)), .k (.slice ba n ca), .k (.pointer (some ⟨tb, 2, none⟩)), .k (.slice bb n cb), blkE 2 #[.slice ba n ca, .slice bb n cb] 29, .k (.int .u64 Zc), .k (.pointer (some ⟨tb, 1, none⟩))] (Old w4) (by kernel_rfl) (by kernel_rfl) rfl ((Old.refl _).drew) ?st ?_
  case st =>
    refine .c stp <|
      .c stp <|
      .c (stf 0 Tryz.underlying29 HTr.out) <|
      .c (stm (ob := fun t => .cells #[.slice ba n ca] 29) (v := fun s => .slice (some ⟨s, 0, none⟩) 1 1) old_R fun t wx hR hd => ⟨_, rfl, heap_alloc_last _ _⟩) <|
      .c (stCf #[.pointer (some ⟨kb, 0, none⟩), .pointer (some ⟨lb, 0, none⟩), .pointer (some ⟨qb, 0, none⟩)] (args := fun t => #[.string (strOfNums [120]), t 3, .pointer (some ⟨kb, 0, none⟩), .pointer (some ⟨lb, 0, none⟩), .pointer (some ⟨qb, 0, none⟩)]) old_R Tryz.func127 fun t wx hR hd => ?_) <|
      .c stp <|
      .c stp <|
      .c (stf 0 Tryz.underlying29 HTr.out) <|
      .c stp <|
      .c (stf 2 Tryz.underlying29 HTr.out) <|
      .c (stm (ob := fun t => .cells #[.slice ba n ca, .slice bb n cb] 29) (v := fun s => .slice (some ⟨s, 0, none⟩) 2 2) old_R fun t wx hR hd => ⟨_, rfl, heap_alloc_last _ _⟩) <|
      .c (stCf #[.pointer (some ⟨kb, 0, none⟩), .pointer (some ⟨lb, 0, none⟩), .pointer (some ⟨qb, 0, none⟩)] (args := fun t => #[.string (strOfNums [121]), t 10, .pointer (some ⟨kb, 0, none⟩), .pointer (some ⟨lb, 0, none⟩), .pointer (some ⟨qb, 0, none⟩)]) old_R Tryz.func127 fun t wx hR hd => ?_) <|
      .c stp <|
      .c stp <|
      .c (stf 0 Tryz.underlying29 HTr.out) <|
      .c stp <|
      .c (stf 2 Tryz.underlying29 HTr.out) <|
      .c (stm (ob := fun t => .cells #[.slice ba n ca, .slice bb n cb] 29) (v := fun s => .slice (some ⟨s, 0, none⟩) 2 2) old_R fun t wx hR hd => ⟨_, rfl, heap_alloc_last _ _⟩) <|
      .c (stCf #[.pointer (some ⟨kb, 0, none⟩), .pointer (some ⟨lb, 0, none⟩), .pointer (some ⟨qb, 0, none⟩)] (args := fun t => #[.string (strOfNums [122]), t 17, .pointer (some ⟨kb, 0, none⟩), .pointer (some ⟨lb, 0, none⟩), .pointer (some ⟨qb, 0, none⟩)]) old_R Tryz.func127 fun t wx hR hd => ?_) <|
      .c stp .n
    · obtain ⟨b, e, hb⟩ : ∃ b, t 3 = .slice (some ⟨b, 0, none⟩) 1 1 ∧ wx.heap[b]? = some (.cells #[.slice ba n ca] 29 (0, 0)) := hd 3 (by kernel_rfl)
      rw [e]
      exact (HX1.out wx b kb sb lb qb (HW0.out.trans (HO4.out.trans hR)) (HAk.out wx hR) hb).mono fun r w' ⟨h, k⟩ => ⟨_, h, k, rfl⟩
    · obtain ⟨b, e, hb⟩ : ∃ b, t 10 = .slice (some ⟨b, 0, none⟩) 2 2 ∧ wx.heap[b]? = some (.cells #[.slice ba n ca, .slice bb n cb] 29 (0, 0)) := hd 10 (by kernel_rfl)
      rw [e]
      exact (HX2.out 121 wx b kb sb lb qb (by decide) (by decide) (HW0.out.trans (HO4.out.trans hR)) (HAk.out wx hR) hb).mono fun r w' ⟨h, k⟩ => ⟨_, h, k, by rw [HYc.out]; rfl⟩
    · obtain ⟨b, e, hb⟩ : ∃ b, t 17 = .slice (some ⟨b, 0, none⟩) 2 2 ∧ wx.heap[b]? = some (.cells #[.slice ba n ca, .slice bb n cb] 29 (0, 0)) := hd 17 (by kernel_rfl)
      rw [e]
      exact (HX2.out 122 wx b kb sb lb qb (by decide) (by decide) (HW0.out.trans (HO4.out.trans hR)) (HAk.out wx hR) hb).mono fun r w' ⟨h, k⟩ => ⟨_, h, k, by rw [HZc.out]; rfl⟩
  intro t wx hR hk
  simp only [fill, Ent.val, blkE, List.set_cons_zero, List.set_cons_succ, List.drop_succ_cons, List.drop_zero, List.drop_nil]
  have hrow := HTr.out _ hR
  have q1 : wx.cell? ⟨tb, 1, none⟩ = some (.int .u64 0) := cell_of_row _ _ 1 _ _ (0, 0) hrow
  have q3 : wx.cell? ⟨tb, 3, none⟩ = some (.int .u64 0) := cell_of_row _ _ 3 _ _ (0, 0) hrow
  have q4 : wx.cell? ⟨tb, 4, none⟩ = some (.int .u64 0) := cell_of_row _ _ 4 _ _ (0, 0) hrow
  have f1 : wx.frozen? ⟨tb, 1, none⟩ = false := row_frozen hrow 1
  have f3 : wx.frozen? ⟨tb, 3, none⟩ = false := row_frozen hrow 3
  have f4 : wx.frozen? ⟨tb, 4, none⟩ = false := row_frozen hrow 4
  have HO5 : Hid (Old W1 (((wx.setCell ⟨tb, 1, none⟩ (.int .u64 Xc)).setCell ⟨tb, 3, none⟩ (.int .u64 Yc)).setCell ⟨tb, 4, none⟩ (.int .u64 Zc))) := (((HO4.out.trans hR).setCell (p := ⟨tb, 1, none⟩) Htb.out _).setCell (p := ⟨tb, 3, none⟩) Htb.out _).setCell (p := ⟨tb, 4, none⟩) Htb.out _
  have HR5 : Hid ((((wx.setCell ⟨tb, 1, none⟩ (.int .u64 Xc)).setCell ⟨tb, 3, none⟩ (.int .u64 Yc)).setCell ⟨tb, 4, none⟩ (.int .u64 Zc)).heap[tb]? = some (.cells (tkc ba n ca Xc bb n cb Yc Zc bp n cp) 41 (0, 0))) := by
    have := set_row (set_row (set_row hrow 1 (.int .u64 Xc)) 3 (.int .u64 Yc)) 4 (.int .u64 Zc)
    unfold Hid; simpa using this
  clear hrow hR hk HTr HR4 HO4 HAk HX1 HX2 HYc HZc
  go_upto_region 6 with fail
  clear q1 q3 q4 f1 f3 f4
  generalize (((wx.setCell ⟨tb, 1, none⟩ (.int .u64 Xc)).setCell ⟨tb, 3, none⟩ (.int .u64 Yc)).setCell ⟨tb, 4, none⟩ (.int .u64 Zc)) = w5 at *
  have t0 : w5.cell? ⟨tb, 0, none⟩ = some (.slice ba n ca) := cell_of_row _ _ 0 _ _ (0, 0) HR5.out
  have t1 : w5.cell? ⟨tb, 1, none⟩ = some (.int .u64 Xc) := cell_of_row _ _ 1 _ _ (0, 0) HR5.out
  have t2 : w5.cell? ⟨tb, 2, none⟩ = some (.slice bb n cb) := cell_of_row _ _ 2 _ _ (0, 0) HR5.out
  have t3 : w5.cell? ⟨tb, 3, none⟩ = some (.int .u64 Yc) := cell_of_row _ _ 3 _ _ (0, 0) HR5.out
  have t4 : w5.cell? ⟨tb, 4, none⟩ = some (.int .u64 Zc) := cell_of_row _ _ 4 _ _ (0, 0) HR5.out
  have t5 : w5.cell? ⟨tb, 5, none⟩ = some (.slice bp n cp) := cell_of_row _ _ 5 _ _ (0, 0) HR5.out
  obtain ⟨g0, g1, g2, g3, g4⟩ := HGc.out _ HO5.out
  cases ok with
  | true =>
    go_upto_region 7 with (go_at_call 28; refine (HCl.out _ (HW0.out.trans HO5.out)).mono ?_; intro e w6 hd; obtain ⟨bt, ct, b2, c2, BA, Cc, rfl, o6, hcl⟩ := GivD.made hd (fun j _ => HTu.out j) (fun j hj i _ => HBu.out j hj i))
    clear t0 t1 t2 t3 t4 t5 g0 g1 g2 g3 g4 hd
    have HOc : Old w6 (w6.alloc (.cells #[.slice bt (4 * n + 6) ct, .slice b2 (4 * n + 6) c2] 50)) := (Old.refl _).alloc _
    have HO7 : Hid (Old W1 (w6.alloc (.cells #[.slice bt (4 * n + 6) ct, .slice b2 (4 * n + 6) c2] 50))) := (HO5.out.trans o6).trans HOc
    have HC7 : Hid (ClaimIn (w6.alloc (.cells #[.slice bt (4 * n + 6) ct, .slice b2 (4 * n + 6) c2] 50)) bt (4 * n + 6) ct Tg b2 (4 * n + 6) c2 BA (fun _ => 7 * n + 3) Cc Bg) := hcl.old HOc
    have hrow := heap_alloc_last w6 (.cells #[.slice bt (4 * n + 6) ct, .slice b2 (4 * n + 6) c2] 50)
    have c0 : (w6.alloc (.cells #[.slice bt (4 * n + 6) ct, .slice b2 (4 * n + 6) c2] 50)).cell? ⟨w6.heap.size, 0, none⟩ = some (.slice bt (4 * n + 6) ct) := cell_of_row _ _ 0 _ _ (0, 0) hrow
    have c1 : (w6.alloc (.cells #[.slice bt (4 * n + 6) ct, .slice b2 (4 * n + 6) c2] 50)).cell? ⟨w6.heap.size, 1, none⟩ = some (.slice b2 (4 * n + 6) c2) := cell_of_row _ _ 1 _ _ (0, 0) hrow
    clear hrow HOc hcl HTu HBu HCl HR5
    generalize w6.alloc (.cells #[.slice bt (4 * n + 6) ct, .slice b2 (4 * n + 6) c2] 50) = w7 at *
    obtain ⟨g0, g1, g2, g3, g4⟩ := HGc.out _ HO7.out
    obtain ⟨s0, s1, s2, s3, s4⟩ := HSc.out _ HO7.out
    clear s0 s1 s2
    go_wp2_with (go_at_call 94; refine (HAc.out _ bt ct b2 c2 BA Cc (HW0.out.trans HO7.out) HC7.out).mono ?_; rintro e w8 ⟨rfl, o8⟩)
    go_ret
    exact ⟨by rfl, (HW0.out.trans HO7.out).trans o8⟩
  | false =>
    go_upto_region 7 with (go_at_call 28; refine (HCl.out _ (HW0.out.trans HO5.out)).mono ?_; intro e w6 hd; obtain ⟨bt, nt', ct, b2, nb', c2, rfl, o6⟩ := GivD.none hd)
    clear t0 t1 t2 t3 t4 t5 g0 g1 g2 g3 g4 hd
    have HO7 : Hid (Old w (w6.alloc (.cells #[.slice bt nt' ct, .slice b2 nb' c2] 50))) := ((HW0.out.trans HO5.out).trans o6).alloc _
    go_wp2_with fail
    go_ret
    exact ⟨by rfl, HO7.out⟩

set_option maxRecDepth 100000 in
set_option maxHeartbeats 8000000 in
theorem sacc_no (P Q G H : Int) (a : Option Addr) (m cap : Nat) (label : List Int) (y : Int) (bi : Option Addr) (l ci : Nat) (bo : Option Addr) (no co : Nat) (ba : Option Addr) (na ca : Nat) (bb : Option Addr) (nb cb : Nat) (bp : Option Addr) (np cp : Nat) (bk : Option Addr) (nk ck : Nat) (bz : Option Addr) (nz cz : Nat) (w : World) (hl : l ≤ 9223372036854775807) (hf : fitB l no na nb np = false) :
    Calls Tryz.prog 34 #[gv P Q G H a m cap, .string (strOfNums label), .int .u64 y, .slice bi l ci, .slice bo no co, .agg #[.slice ba na ca, .slice bb nb cb, .slice bp np cp, .slice bk nk ck, .slice bz nz cz]] w (Ret w (.bool false)) := by
  have HSz : Hid (∀ wx, Calls Tryz.prog 79 #[.slice bi l ci, .slice bo no co, tk ba na ca 0 bb nb cb 0 0 bp np cp] wx (Ret wx (.bool false))) := fun wx => by
    have := ssizes_any bi l ci bo no co ba na ca 0 bb nb cb 0 0 bp np cp wx hl
    rwa [hf] at this
  clear hl hf
  have HZ := lain2 w (gc P Q G H a m cap) #[.slice ba na ca, .slice bb nb cb, .slice bp np cp, .slice bk nk ck, .slice bz nz cz] 25 57
  have HT0 := fun w' ho => (HZ.then (W' := w') ho).row 1 (by simp)
  have HW0 : Hid (Old w ((w.alloc (.cells (gc P Q G H a m cap) 25)).alloc (.cells #[.slice ba na ca, .slice bb nb cb, .slice bp np cp, .slice bk nk ck, .slice bz nz cz] 57))) := HZ.old
  clear HZ
  go_enter Tryz.func34, Tryz.ntmps34
  go_upto_region 1 with fail
  generalize (w.alloc (.cells (gc P Q G H a m cap) 25)).alloc (.cells #[.slice ba na ca, .slice bb nb cb, .slice bp np cp, .slice bk nk ck, .slice bz nz cz] 57) = W1 at *
  have HS1 : Hid (∀ wx, Old W1 wx → wx.heap[w.heap.size + 1]? = some (.cells #[.slice ba na ca, .slice bb nb cb, .slice bp np cp, .slice bk nk ck, .slice bz nz cz] 57 (0, 0))) := HT0
  clear HT0
  generalize w.heap.size = gb at *
  have s0 : W1.cell? ⟨gb + 1, 0, none⟩ = some (.slice ba na ca) := cell_of_row _ _ 0 _ _ (0, 0) (HS1.out _ (Old.refl _))
  have s1 : W1.cell? ⟨gb + 1, 1, none⟩ = some (.slice bb nb cb) := cell_of_row _ _ 1 _ _ (0, 0) (HS1.out _ (Old.refl _))
  have s2 : W1.cell? ⟨gb + 1, 2, none⟩ = some (.slice bp np cp) := cell_of_row _ _ 2 _ _ (0, 0) (HS1.out _ (Old.refl _))
  have HO2 : Hid (Old W1 (W1.alloc (.cells (tkc ba na ca 0 bb nb cb 0 0 bp np cp) 41))) := (Old.refl _).alloc _
  have HR2 : Hid ((W1.alloc (.cells (tkc ba na ca 0 bb nb cb 0 0 bp np cp) 41)).heap[W1.heap.size]? = some (.cells (tkc ba na ca 0 bb nb cb 0 0 bp np cp) 41 (0, 0))) := heap_alloc_last _ _
  go_upto_region 2 with fail
  clear s0 s1 s2 HS1
  generalize W1.alloc (.cells (tkc ba na ca 0 bb nb cb 0 0 bp np cp) 41) = W2 at *
  generalize W1.heap.size = tb at *
  have t0 : W2.cell? ⟨tb, 0, none⟩ = some (.slice ba na ca) := cell_of_row _ _ 0 _ _ (0, 0) HR2.out
  have t1 : W2.cell? ⟨tb, 1, none⟩ = some (.int .u64 0) := cell_of_row _ _ 1 _ _ (0, 0) HR2.out
  have t2 : W2.cell? ⟨tb, 2, none⟩ = some (.slice bb nb cb) := cell_of_row _ _ 2 _ _ (0, 0) HR2.out
  have t3 : W2.cell? ⟨tb, 3, none⟩ = some (.int .u64 0) := cell_of_row _ _ 3 _ _ (0, 0) HR2.out
  have t4 : W2.cell? ⟨tb, 4, none⟩ = some (.int .u64 0) := cell_of_row _ _ 4 _ _ (0, 0) HR2.out
  have t5 : W2.cell? ⟨tb, 5, none⟩ = some (.slice bp np cp) := cell_of_row _ _ 5 _ _ (0, 0) HR2.out
  go_wp2_with (go_at_call 79; refine (HSz.out _).mono ?_; rintro e w3 ⟨rfl, o3⟩)
  go_ret
  exact ⟨rfl, (HW0.out.trans HO2.out).trans o3⟩

end Go.Proofs.YtlnmjbbpenhdbaaGreat
