/-
  What the proof needs, part 21.
-/
import Derived.Test.YtlnmjbbpenhdbaaGreatKp20
import Derived.Test.YtlnmjbbpenhdbaaGreatKp17
import Derived.Test.YtlnmjbbpenhdbaaGreatKp06
import Derived.Test.YtlnmjbbpenhdbaaGreatKp12
import Derived.Test.YtlnmjbbpenhdbaaGreatKp13
import Derived.Test.YtlnmjbbpenhdbaaGreatKp11
namespace Go.Proofs.YtlnmjbbpenhdbaaGreat
set_option linter.unusedSimpArgs false
set_option linter.unusedVariables false
set_option maxRecDepth 100000
set_option maxHeartbeats 32000000
section
open Go.RowKit
set_option linter.unusedSimpArgs false in
theorem laccepts_gen (P Q G H : Int) (a : Option Addr) (n cap : Nat) (bt : Option Addr) (nt ct : Nat) (T : Nat -> Int) (bb : Option Addr) (nb cb : Nat) (BA : Nat -> Option Addr) (L C : Nat -> Nat) (B : Nat -> Nat -> Int) (bk : Option Addr) (nk ck : Nat) (K : Nat -> Int) (ch : Int) (bz : Option Addr) (nz cz : Nat) (X : Nat -> Int) (w : World) (h4 : Four P Q G H) (hr : Righ P Q G) (he : U64 ch) (mk : nk <= 9223372036854775807) (hC : ClaimIn w bt nt ct T bb nb cb BA L C B) (hK : FacsIn w bk nk K) (hX : FacsIn w bz nz X) :
  Calls Tryz.prog 45 #[gv P Q G H a n cap, cv bt nt ct bb nb cb, .slice bk nk ck, .int .u64 ch, .slice bz nz cz] w fun e w' => e = .returned (.bool (accB P Q nt T nb L B nk K ch nz X)) /\ Old w w' := by
 have HZ := lain2 w (gc P Q G H a n cap) (cc bt nt ct bb nb cb) 25 50
 have HT : Hid (∀ w', Old ((w.alloc (.cells (gc P Q G H a n cap) 25)).alloc (.cells (cc bt nt ct bb nb cb) 50)) w' -> w'.cell? ⟨w.heap.size, 0, none⟩ = some (.int .u64 P) /\ w'.cell? ⟨w.heap.size, 1, none⟩ = some (.int .u64 Q) /\ w'.cell? ⟨w.heap.size, 2, none⟩ = some (.int .u64 G) /\ w'.cell? ⟨w.heap.size, 3, none⟩ = some (.int .u64 H) /\ w'.cell? ⟨w.heap.size, 4, none⟩ = some (.slice a n cap) /\ w'.cell? ⟨w.heap.size + 1, 0, none⟩ = some (.slice bt nt ct) /\ w'.cell? ⟨w.heap.size + 1, 1, none⟩ = some (.slice bb nb cb)) := fun w' ho => by
  have h := HZ.then ho
  exact ⟨h.cell 0 0 (by simp) rfl, h.cell 0 1 (by simp) rfl, h.cell 0 2 (by simp) rfl, h.cell 0 3 (by simp) rfl, h.cell 0 4 (by simp) rfl, h.cell 1 0 (by simp) rfl, h.cell 1 1 (by simp) rfl⟩
 have HC : Hid (FacsIn w bt nt T) := hC.tar
 have HKK : Hid (FacsIn w bk nk K) := hK
 have HIm : Hid (∀ wx, Old w wx -> Calls Tryz.prog 42 #[gv P Q G H a n cap, cv bt nt ct bb nb cb, .slice bz nz cz] wx (GivesF wx (fitsB (sizeN P Q nt T nb L B) nz) nt (fun j => imI P Q (B j) X (sizeN P Q nt T nb L B)))) := fun wx ho => limage_gen P Q G H a n cap bt nt ct T bb nb cb BA L C B bz nz cz X wx h4 hr (hC.old ho) (hX.old ho)
 have mt : nt <= 9223372036854775807 := Nat.le_trans hC.tc hC.tm
 obtain ⟨F, hF⟩ : ∃ F : Nat -> Int, F = fun j => imI P Q (B j) X (sizeN P Q nt T nb L B) := ⟨_, rfl⟩
 obtain ⟨E, hE⟩ : ∃ E : Nat -> Int, E = fun j => expI P Q (T j) ch := ⟨_, rfl⟩
 obtain ⟨M, hM⟩ : ∃ M : Nat -> Int, M = fun j => mulI (K j) (E j) P := ⟨_, rfl⟩
 have HYES : Hid (fitsB (sizeN P Q nt T nb L B) nz = true -> nk = nt -> elB P Q nk K = true -> (∀ j, j < nt -> F j = M j) -> accB P Q nt T nb L B nk K ch nz X = true) := fun h1 h2 h3 h5 => accB_iff.2 ⟨h1, h2, fun j hj => ⟨elB_iff.1 h3 j (h2 ▸ hj), by have := h5 j hj; rw [hF, hM, hE] at this; exact this⟩⟩
 have HNO : Hid ((fitsB (sizeN P Q nt T nb L B) nz = true -> nk = nt -> elB P Q nk K = true -> (∀ j, j < nt -> F j = M j) -> False) -> accB P Q nt T nb L B nk K ch nz X = false) := fun h => no_of fun hc => by
  obtain ⟨h1, h2, h3⟩ := accB_iff.1 hc
  exact h h1 h2 (elB_iff.2 fun j hj => (h3 j (h2 ▸ hj)).1) fun j hj => by rw [hF, hM, hE]; exact (h3 j hj).2
 rw [<- hF] at HIm
 have HNT : Hid (fitsB (sizeN P Q nt T nb L B) nz = true -> 0 < nt) := fun h => (sizeN_claim (fitsB_iff.1 h).1).t1
 have HEl : Hid (∀ wx, Old w wx -> Calls Tryz.prog 97 #[gv P Q G H a n cap, .slice bk nk ck] wx fun e w' => e = .returned (.bool (elB P Q nk K)) /\ Old wx w') := fun wx ho => lels_any P Q G H a n cap bk nk ck K wx h4 mk (hK.old ho)
 have HEx : Hid (∀ j wx, j < nt -> Calls Tryz.prog 65 #[gv P Q G H a n cap, .int .u64 (T j), .int .u64 ch] wx fun e w' => e = .returned (.int .u64 (E j)) /\ Old wx w') := fun j wx hj => (gexp_any P Q G H (T j) ch a n cap wx h4 hr (hC.tar.u64 j hj).1 (hC.tar.u64 j hj).2 he.1 he.2).mono fun e w' ⟨h, k⟩ => ⟨by rw [h, hE], k⟩
 have HPr : Hid (∀ (j : Nat) (wx : World) (t : TypeId), j < nk -> Calls Tryz.prog 64 #[gv P Q G H a n cap, .slice (some ⟨wx.heap.size, 0, none⟩) 2 2] (wx.alloc (.cells #[.int .u64 (K j), .int .u64 (E j)] t)) fun r w' => r = .returned (.int .u64 (M j)) /\ Old (wx.alloc (.cells #[.int .u64 (K j), .int .u64 (E j)] t)) w') :=
  fun j wx t hj => by
   have hu : U64 (E j) := by rw [hE]; exact u64_exp _ _ _ _
   have hf := facs_two wx (K j) (E j) t (hK.u64 j hj) hu
   have hm : mulI (K j) (E j) P = M j := by rw [hM]
   have hp := prod5 hr (K j) (E j)
   generalize two5 (K j) (E j) = F2 at *
   have hg := gprod_any P Q G H a n cap (some ⟨wx.heap.size, 0, none⟩) 2 2 F2 _ h4 hr (by decide) (by decide) hf
   rw [hp, hm] at hg
   exact hg
 clear hM hE hF h4 hr he hC hK hX
 generalize accB P Q nt T nb L B nk K ch nz X = R at *
 generalize fitsB (sizeN P Q nt T nb L B) nz = ok at *
 cases ok with
 | false =>
  have HN : Hid (R = false) := HNO.out fun h _ _ _ => by cases h
  go_enter Tryz.func45, Tryz.ntmps45
  go_upto_region 1 with fail
  have HW0 : Hid (Old w ((w.alloc (.cells (gc P Q G H a n cap) 25)).alloc (.cells (cc bt nt ct bb nb cb) 50))) := HZ.old
  generalize hW : (w.alloc (.cells (gc P Q G H a n cap) 25)).alloc (.cells (cc bt nt ct bb nb cb) 50) = W at *
  clear hW
  obtain ⟨d0, d1, d2, d3, d4, t0, t1⟩ := HT.out _ (Old.refl _)
  go_upto_region 2 with (go_at_call 42; refine (HIm.out _ HW0.out).mono ?_; rintro e w2 ⟨h2, ⟨_, rfl⟩ | ⟨hno, _⟩⟩; rotate_left; exact absurd hno (by decide))
  clear d0 d1 d2 d3 d4 t0 t1
  go_wp2_with fail
  go_ret
  exact ⟨ret_bool HN.out.symm, HW0.out.trans h2⟩
 | true =>
  have hpos := HNT.out (by trivial)
  by_cases hnk : nk = nt
  · cases hel : elB P Q nk K with
   | false =>
    have HN : Hid (R = false) := HNO.out fun _ _ h _ => by rw [hel] at h; cases h
    rw [hel] at HEl
    have k1 : (nk : Int) = (nt : Int) := by omega
    have k4 : ((nk : Int) != (nt : Int)) = false := by simp; omega
    clear hel HYES HNO hnk
    go_enter Tryz.func45, Tryz.ntmps45
    go_upto_region 1 with fail
    have HW0 : Hid (Old w ((w.alloc (.cells (gc P Q G H a n cap) 25)).alloc (.cells (cc bt nt ct bb nb cb) 50))) := HZ.old
    generalize hW : (w.alloc (.cells (gc P Q G H a n cap) 25)).alloc (.cells (cc bt nt ct bb nb cb) 50) = W at *
    clear hW
    obtain ⟨d0, d1, d2, d3, d4, t0, t1⟩ := HT.out _ (Old.refl _)
    go_upto_region 2 with (go_at_call 42; refine (HIm.out _ HW0.out).mono ?_; rintro e w2 ⟨h2, ⟨hno, _⟩ | ⟨_, bf, hbf, rfl, hff⟩⟩; exact absurd hno (by decide))
    clear d0 d1 d2 d3 d4 t0 t1
    obtain ⟨d0, d1, d2, d3, d4, t0, t1⟩ := HT.out _ h2
    go_wp2_with (go_at_call 97; refine (HEl.out _ (HW0.out.trans h2)).mono ?_; rintro e w3 ⟨rfl, h3⟩)
    go_ret
    exact ⟨ret_bool HN.out.symm, (HW0.out.trans h2).trans h3⟩
   | true =>
    have HYE : Hid ((∀ j, j < nt -> F j = M j) -> R = true) := fun h => HYES.out (by trivial) hnk hel h
    have HNE : Hid (∀ j, j < nt -> ¬ F j = M j -> R = false) := fun j hj hne => HNO.out fun _ _ _ h => hne (h j hj)
    rw [hel] at HEl
    clear hel HYES HNO
    subst hnk
    rcases HC.out with h0 | ⟨tb, tof, hqt, _, hrt⟩
    · omega
    rcases HKK.out with h0 | ⟨kb, ko, hqk, _, hrk⟩
    · omega
    subst hqt hqk
    have HRT : Hid (∀ j, j < nk -> ∀ w', Old w w' -> w'.cell? ⟨tb, tof + j, none⟩ = some (.int .u64 (T j))) := fun j hj w' ho => ho.cellOf (hrt j hj).1
    have HRK : Hid (∀ j, j < nk -> ∀ w', Old w w' -> w'.cell? ⟨kb, ko + j, none⟩ = some (.int .u64 (K j))) := fun j hj w' ho => ho.cellOf (hrk j hj).1
    clear hrt hrk
    go_enter Tryz.func45, Tryz.ntmps45
    go_upto_region 1 with fail
    have HW0 : Hid (Old w ((w.alloc (.cells (gc P Q G H a n cap) 25)).alloc (.cells (cc (some ⟨tb, tof, none⟩) nk ct bb nb cb) 50))) := HZ.old
    generalize hW : (w.alloc (.cells (gc P Q G H a n cap) 25)).alloc (.cells (cc (some ⟨tb, tof, none⟩) nk ct bb nb cb) 50) = W at *
    clear hW
    obtain ⟨d0, d1, d2, d3, d4, t0, t1⟩ := HT.out _ (Old.refl _)
    go_upto_region 2 with (go_at_call 42; refine (HIm.out _ HW0.out).mono ?_; rintro e w2 ⟨h2, ⟨hno, _⟩ | ⟨_, bf, hbf, rfl, hff⟩⟩; exact absurd hno (by decide))
    clear d0 d1 d2 d3 d4 t0 t1
    obtain ⟨d0, d1, d2, d3, d4, t0, t1⟩ := HT.out _ h2
    go_upto_region 4 with (go_at_call 97; refine (HEl.out _ (HW0.out.trans h2)).mono ?_; rintro e w3 ⟨rfl, h3⟩)
    have HRF : Hid (∀ j, j < nk -> ∀ w', Old w2 w' -> w'.cell? ⟨bf, j, none⟩ = some (.int .u64 (F j))) := fun j hj w' ho => ho.cellOf (hff.cell j hj)
    have HW2 : Hid (Old W w2) := h2
    have HW3 : Hid (Old w2 w3) := h3
    clear d0 d1 d2 d3 d4 t0 t1 hff h2 h3
    obtain ⟨d0, d1, d2, d3, d4, t0, t1⟩ := HT.out _ (HW2.out.trans HW3.out)
    go_upto_region 5 with fail
    clear d0 d1 d2 d3 d4 t0 t1
    go_loopw [40] (fun iv wx => ∃ i : Nat, iv = .int .i64 (i : Int) /\ i <= nk /\ Hid (∀ j, j < i -> F j = M j) /\ Hid (Old w2 wx)) (fun iv _ => nk - (intOf iv).toNat)
    case atStart => exact ⟨0, rfl, Nat.zero_le _, fun j hj => by omega, HW3⟩
    case round =>
     obtain ⟨i, rfl, hi1, HJ, HW⟩ := hrel
     by_cases hlt : i < nk
     · have HT2 : Hid (∀ w', Old w2 w' -> w'.cell? ⟨w.heap.size, 0, none⟩ = some (.int .u64 P) /\ w'.cell? ⟨w.heap.size, 1, none⟩ = some (.int .u64 Q) /\ w'.cell? ⟨w.heap.size, 2, none⟩ = some (.int .u64 G) /\ w'.cell? ⟨w.heap.size, 3, none⟩ = some (.int .u64 H) /\ w'.cell? ⟨w.heap.size, 4, none⟩ = some (.slice a n cap) /\ w'.cell? ⟨bf, i, none⟩ = some (.int .u64 (F i)) /\ w'.cell? ⟨kb, ko + i, none⟩ = some (.int .u64 (K i))) := fun w' ho => by
       obtain ⟨d0, d1, d2, d3, d4, t0, t1⟩ := HT.out _ (HW2.out.trans ho)
       exact ⟨d0, d1, d2, d3, d4, HRF.out i hlt _ ho, HRK.out i hlt _ ((HW0.out.trans HW2.out).trans ho)⟩
      obtain ⟨d0, d1, d2, d3, d4, cf1, ck1⟩ := HT2.out _ HW.out
      have cx := HRT.out i hlt _ ((HW0.out.trans HW2.out).trans HW.out)
      have HM : Hid (∀ wx, Calls Tryz.prog 65 #[gv P Q G H a n cap, .int .u64 (T i), .int .u64 ch] wx fun r w' => r = .returned (.int .u64 (E i)) /\ Old wx w') := fun wx => HEx.out i wx hlt
      have HV : Hid (∀ (wx : World) (t : TypeId), Calls Tryz.prog 64 #[gv P Q G H a n cap, .slice (some ⟨wx.heap.size, 0, none⟩) 2 2] (wx.alloc (.cells #[.int .u64 (K i), .int .u64 (E i)] t)) fun r w' => r = .returned (.int .u64 (M i)) /\ Old (wx.alloc (.cells #[.int .u64 (K i), .int .u64 (E i)] t)) w') := fun wx t => HPr.out i wx t hlt
      by_cases heq : F i = M i
      · have HQ : Hid (F i = M i) := heq
       rw [<- heq] at HV
       clear heq
       go_upto_region 7 with fail
       go_region_held3 (fun w' => w'.cell? ⟨w.heap.size, 0, none⟩ = some (.int .u64 P) /\ w'.cell? ⟨w.heap.size, 1, none⟩ = some (.int .u64 Q) /\ w'.cell? ⟨w.heap.size, 2, none⟩ = some (.int .u64 G) /\ w'.cell? ⟨w.heap.size, 3, none⟩ = some (.int .u64 H) /\ w'.cell? ⟨w.heap.size, 4, none⟩ = some (.slice a n cap) /\ w'.cell? ⟨bf, i, none⟩ = some (.int .u64 (F i)) /\ w'.cell? ⟨kb, ko + i, none⟩ = some (.int .u64 (K i))) (first | exact HT2.out _ h5 | exact HT2.out _ (h4.alloc _) | exact HT2.out _ h4 | exact HT2.out _ HW.out.drew) (first
        | (go_at_call 65; refine (HM.out _).mono ?_; rintro e w4 ⟨rfl, o4⟩; have h4 : Old w2 w4 := HW.out.drew.trans o4)
        | (go_at_call 64; refine (HV.out _ _).mono ?_; rintro e w5 ⟨rfl, o5⟩; have h5 : Old w2 w5 := (h4.alloc _).trans o5))
       go_wp2_with fail
       go_roundw
       case rel => exact ⟨i + 1, idx_next i, by omega, upto_succ HJ.out HQ.out, h5⟩
       case measure => simp [intOf]; omega
      · have HN : Hid (R = false) := HNE.out i hlt heq
       go_upto_region 7 with fail
       go_region_held3 (fun w' => w'.cell? ⟨w.heap.size, 0, none⟩ = some (.int .u64 P) /\ w'.cell? ⟨w.heap.size, 1, none⟩ = some (.int .u64 Q) /\ w'.cell? ⟨w.heap.size, 2, none⟩ = some (.int .u64 G) /\ w'.cell? ⟨w.heap.size, 3, none⟩ = some (.int .u64 H) /\ w'.cell? ⟨w.heap.size, 4, none⟩ = some (.slice a n cap) /\ w'.cell? ⟨bf, i, none⟩ = some (.int .u64 (F i)) /\ w'.cell? ⟨kb, ko + i, none⟩ = some (.int .u64 (K i))) (first | exact HT2.out _ h5 | exact HT2.out _ (h4.alloc _) | exact HT2.out _ h4 | exact HT2.out _ HW.out.drew) (first
        | (go_at_call 65; refine (HM.out _).mono ?_; rintro e w4 ⟨rfl, o4⟩; have h4 : Old w2 w4 := HW.out.drew.trans o4)
        | (go_at_call 64; refine (HV.out _ _).mono ?_; rintro e w5 ⟨rfl, o5⟩; have h5 : Old w2 w5 := (h4.alloc _).trans o5))
       go_wp2_with fail
       go_ret
       exact ⟨ret_bool HN.out.symm, (HW0.out.trans HW2.out).trans h5⟩
     · have hei : nk = i := by omega
      subst hei
      have HN : Hid (R = true) := HYE.out HJ.out
      go_wp2_with fail
      go_ret
      exact ⟨ret_bool HN.out.symm, (HW0.out.trans HW2.out).trans HW.out⟩
  · have HN : Hid (R = false) := HNO.out fun _ h _ _ => hnk h
   have k1 : ¬ (nk : Int) = (nt : Int) := by omega
   have k4 : ((nk : Int) != (nt : Int)) = true := by simp; omega
   have k5 : ((nk : Int) == (nt : Int)) = false := by simp; omega
   clear HYES HNO
   go_enter Tryz.func45, Tryz.ntmps45
   go_upto_region 1 with fail
   have HW0 : Hid (Old w ((w.alloc (.cells (gc P Q G H a n cap) 25)).alloc (.cells (cc bt nt ct bb nb cb) 50))) := HZ.old
   generalize hW : (w.alloc (.cells (gc P Q G H a n cap) 25)).alloc (.cells (cc bt nt ct bb nb cb) 50) = W at *
   clear hW
   obtain ⟨d0, d1, d2, d3, d4, t0, t1⟩ := HT.out _ (Old.refl _)
   go_upto_region 2 with (go_at_call 42; refine (HIm.out _ HW0.out).mono ?_; rintro e w2 ⟨h2, ⟨hno, _⟩ | ⟨_, bf, hbf, rfl, hff⟩⟩; exact absurd hno (by decide))
   clear d0 d1 d2 d3 d4 t0 t1
   go_wp2_with fail
   go_ret
   exact ⟨ret_bool HN.out.symm, HW0.out.trans h2⟩
end
section
open Go.RowKit
set_option linter.unusedSimpArgs false in
theorem paccept7_any (label : List Int) (P Q G H : Int) (a : Option Addr) (n cap : Nat) (bt : Option Addr) (nt ct : Nat) (T : Nat -> Int) (bb : Option Addr) (nb cb : Nat) (BA : Nat -> Option Addr) (L C : Nat -> Nat) (B : Nat -> Nat -> Int) (bk : Option Addr) (nk ck : Nat) (K : Nat -> Int) (bz : Option Addr) (nz cz : Nat) (X : Nat -> Int) (w : World) (h4 : Four P Q G H) (hr : Righ P Q G) (hlb : Bts label) (hll : label.length <= 1000) (mt : nt <= 80) (mb : nb <= 80) (mL : ∀ j, j < nb -> L j <= 80) (mk : nk <= 80) (hC : ClaimIn w bt nt ct T bb nb cb BA L C B) (hK : FacsIn w bk nk K) (hX : FacsIn w bz nz X) :
  Calls Tryz.prog 94 #[gv P Q G H a n cap, .string (strOfNums label), cv bt nt ct bb nb cb, cv bk nk ck bz nz cz] w fun e w' => e = .returned (.bool (accB P Q nt T nb L B nk K (chI label P Q G H nt T nb L B nk K) nz X)) /\ Old w w' := by
 have HZ := lain3 w (gc P Q G H a n cap) (cc bt nt ct bb nb cb) (cc bk nk ck bz nz cz) 25 50 55
 have HT : Hid (∀ w', Old (((w.alloc (.cells (gc P Q G H a n cap) 25)).alloc (.cells (cc bt nt ct bb nb cb) 50)).alloc (.cells (cc bk nk ck bz nz cz) 55)) w' -> w'.cell? ⟨w.heap.size, 0, none⟩ = some (.int .u64 P) /\ w'.cell? ⟨w.heap.size, 1, none⟩ = some (.int .u64 Q) /\ w'.cell? ⟨w.heap.size, 2, none⟩ = some (.int .u64 G) /\ w'.cell? ⟨w.heap.size, 3, none⟩ = some (.int .u64 H) /\ w'.cell? ⟨w.heap.size, 4, none⟩ = some (.slice a n cap) /\ w'.cell? ⟨w.heap.size + 1, 0, none⟩ = some (.slice bt nt ct) /\ w'.cell? ⟨w.heap.size + 1, 1, none⟩ = some (.slice bb nb cb) /\ w'.cell? ⟨w.heap.size + 1 + 1, 0, none⟩ = some (.slice bk nk ck) /\ w'.cell? ⟨w.heap.size + 1 + 1, 1, none⟩ = some (.slice bz nz cz)) := fun w' ho => by
  have h := HZ.then ho
  exact ⟨h.cell 0 0 (by simp) rfl, h.cell 0 1 (by simp) rfl, h.cell 0 2 (by simp) rfl, h.cell 0 3 (by simp) rfl, h.cell 0 4 (by simp) rfl, h.cell 1 0 (by simp) rfl, h.cell 1 1 (by simp) rfl, h.cell 2 0 (by simp) rfl, h.cell 2 1 (by simp) rfl⟩
 have HCh : Hid (∀ wx, Old w wx -> Calls Tryz.prog 129 #[gv P Q G H a n cap, .string (strOfNums label), cv bt nt ct bb nb cb, .slice bk nk ck] wx fun e w' => e = .returned (.int .u64 (chI label P Q G H nt T nb L B nk K)) /\ Old wx w') := fun wx ho => pchal_any label P Q G H a n cap bt nt ct T bb nb cb BA L C B bk nk ck K wx h4 hlb hll mt mb mL mk (hC.old ho) (hK.old ho)
 have hcu := ch_u64 label P Q G H nt T nb L B nk K
 generalize chI label P Q G H nt T nb L B nk K = ch at *
 have HAc : Hid (∀ wx, Old w wx -> Calls Tryz.prog 45 #[gv P Q G H a n cap, cv bt nt ct bb nb cb, .slice bk nk ck, .int .u64 ch, .slice bz nz cz] wx fun e w' => e = .returned (.bool (accB P Q nt T nb L B nk K ch nz X)) /\ Old wx w') := fun wx ho => laccepts_gen P Q G H a n cap bt nt ct T bb nb cb BA L C B bk nk ck K ch bz nz cz X wx h4 hr hcu (by omega) (hC.old ho) (hK.old ho) (hX.old ho)
 have HSz : Hid (∀ wx, Old w wx -> Calls Tryz.prog 36 #[gv P Q G H a n cap, cv bt nt ct bb nb cb] wx fun e w' => e = .returned (.int .i64 (sizeN P Q nt T nb L B : Nat)) /\ Old wx w') := fun wx ho => lsize_gen P Q G H a n cap bt nt ct T bb nb cb BA L C B wx h4 (hC.old ho)
 have HN : Hid (¬ (sizeN P Q nt T nb L B ≠ 0 /\ nk = nt) -> accB P Q nt T nb L B nk K ch nz X = false) := fun hno => by
  refine Bool.eq_false_iff.2 fun hyes => hno ?_
  have h := accB_iff.1 hyes
  exact ⟨(fitsB_iff.1 h.1).1, h.2.1⟩
 have hszb := sizeN_le P Q nt T nb L B
 generalize accB P Q nt T nb L B nk K ch nz X = R at *
 clear h4 hr hlb hll mb mL hC hK hX hcu
 generalize sizeN P Q nt T nb L B = sz at *
 have HW0 : Hid (Old w (((w.alloc (.cells (gc P Q G H a n cap) 25)).alloc (.cells (cc bt nt ct bb nb cb) 50)).alloc (.cells (cc bk nk ck bz nz cz) 55))) := HZ.old
 by_cases hz : sz = 0
 · subst hz
  have HS0 : Hid (∀ wx, Old w wx -> Calls Tryz.prog 36 #[gv P Q G H a n cap, cv bt nt ct bb nb cb] wx fun e w' => e = .returned (.int .i64 0) /\ Old wx w') := HSz
  clear HSz
  have HN' : Hid (R = false) := HN.out fun h => h.1 rfl
  go_enter Tryz.func94, Tryz.ntmps94
  go_upto_region 1 with fail
  generalize hW : (((w.alloc (.cells (gc P Q G H a n cap) 25)).alloc (.cells (cc bt nt ct bb nb cb) 50)).alloc (.cells (cc bk nk ck bz nz cz) 55)) = W at *
  clear hW
  obtain ⟨d0, d1, d2, d3, d4, z0, z1, y0, y1⟩ := HT.out _ (Old.refl _)
  go_wp2_with (go_at_call 36; refine (HS0.out _ HW0.out).mono ?_; rintro e w2 ⟨rfl, h2⟩; clear d0 d1 d2 d3 d4 z0 z1 y0 y1; obtain ⟨d0, d1, d2, d3, d4, z0, z1, y0, y1⟩ := HT.out _ h2)
  go_ret
  exact ⟨by rw [HN'.out]; rfl, HW0.out.trans h2⟩
 have k1 : ¬ (sz : Int) = 0 := by omega
 have k2 : ((sz : Int) == 0) = false := by simp; omega
 by_cases hk : nk = nt
 · have k3 : ((nk : Int) != (nt : Int)) = false := by simp; omega
  clear hk
  go_enter Tryz.func94, Tryz.ntmps94
  go_upto_region 1 with fail
  generalize hW : (((w.alloc (.cells (gc P Q G H a n cap) 25)).alloc (.cells (cc bt nt ct bb nb cb) 50)).alloc (.cells (cc bk nk ck bz nz cz) 55)) = W at *
  clear hW
  obtain ⟨d0, d1, d2, d3, d4, z0, z1, y0, y1⟩ := HT.out _ (Old.refl _)
  go_upto_region 3 with (go_at_call 36; refine (HSz.out _ HW0.out).mono ?_; rintro e w2 ⟨rfl, h2⟩; clear d0 d1 d2 d3 d4 z0 z1 y0 y1; obtain ⟨d0, d1, d2, d3, d4, z0, z1, y0, y1⟩ := HT.out _ h2)
  have hd : Old W w2.drew := h2.drew
  go_region_held3 (fun w' => w'.cell? ⟨w.heap.size, 0, none⟩ = some (.int .u64 P) /\ w'.cell? ⟨w.heap.size, 1, none⟩ = some (.int .u64 Q) /\ w'.cell? ⟨w.heap.size, 2, none⟩ = some (.int .u64 G) /\ w'.cell? ⟨w.heap.size, 3, none⟩ = some (.int .u64 H) /\ w'.cell? ⟨w.heap.size, 4, none⟩ = some (.slice a n cap) /\ w'.cell? ⟨w.heap.size + 1, 0, none⟩ = some (.slice bt nt ct) /\ w'.cell? ⟨w.heap.size + 1, 1, none⟩ = some (.slice bb nb cb) /\ w'.cell? ⟨w.heap.size + 1 + 1, 0, none⟩ = some (.slice bk nk ck) /\ w'.cell? ⟨w.heap.size + 1 + 1, 1, none⟩ = some (.slice bz nz cz)) (first | exact HT.out _ h5 | exact HT.out _ h4 | exact HT.out _ hd) (first
   | (go_at_call 129; refine (HCh.out _ (HW0.out.trans hd)).mono ?_; rintro e w4 ⟨rfl, o4⟩; have h4 : Old W w4 := hd.trans o4)
   | (go_at_call 45; refine (HAc.out _ (HW0.out.trans h4)).mono ?_; rintro e w5 ⟨rfl, o5⟩; have h5 : Old W w5 := h4.trans o5))
  go_wp2_with fail
  go_ret
  exact ⟨rfl, HW0.out.trans h5⟩
 · have HN' : Hid (R = false) := HN.out fun h => hk h.2
  have k3 : ¬ (nk : Int) = (nt : Int) := by omega
  have k4 : ((nk : Int) != (nt : Int)) = true := by simp; omega
  have k5 : ((nk : Int) == (nt : Int)) = false := by simp; omega
  go_enter Tryz.func94, Tryz.ntmps94
  go_upto_region 1 with fail
  generalize hW : (((w.alloc (.cells (gc P Q G H a n cap) 25)).alloc (.cells (cc bt nt ct bb nb cb) 50)).alloc (.cells (cc bk nk ck bz nz cz) 55)) = W at *
  clear hW
  obtain ⟨d0, d1, d2, d3, d4, z0, z1, y0, y1⟩ := HT.out _ (Old.refl _)
  go_wp2_with (go_at_call 36; refine (HSz.out _ HW0.out).mono ?_; rintro e w2 ⟨rfl, h2⟩; clear d0 d1 d2 d3 d4 z0 z1 y0 y1; obtain ⟨d0, d1, d2, d3, d4, z0, z1, y0, y1⟩ := HT.out _ h2)
  go_ret
  exact ⟨by rw [HN'.out]; rfl, HW0.out.trans h2⟩
end
section
open Go.RowKit
theorem GivD.made {w w' : World} {nt : Nat} {T : Nat -> Int} {L : Nat -> Nat} {B : Nat -> Nat -> Int} {r : Ending} (h : GivD w true nt T L B r w') (hT : ∀ j, j < nt -> U64 (T j)) (hB : ∀ j, j < nt -> ∀ i, i < L j -> U64 (B j i)) : ∃ bt ct bb cb BA C, r = .returned (.tuple #[cv bt nt ct bb nt cb, .bool true]) /\ Old w w' /\ ClaimIn w' bt nt ct T bb nt cb BA L C B := by
 obtain ⟨ho, v, u, rfl, h1, h2⟩ := h
 obtain ⟨bt, ct, rfl, q1, q2, hf⟩ := Nums.facs2 (k := nt) h1 hT
 obtain ⟨bb, cb, BA, C, rfl, q3, q4, hl⟩ := Rws.lists (nb := nt) h2 hB
 exact ⟨bt, ct, bb, cb, BA, C, rfl, ho, q1, q2, q3, q4, hf, hl⟩
theorem GivD.none {w w' : World} {nt : Nat} {T : Nat -> Int} {L : Nat -> Nat} {B : Nat -> Nat -> Int} {r : Ending} (h : GivD w false nt T L B r w') : ∃ bt nt' ct bb nb cb, r = .returned (.tuple #[cv bt nt' ct bb nb cb, .bool false]) /\ Old w w' := by
 obtain ⟨ho, v, u, rfl, h1, h2⟩ := h
 obtain ⟨bt, ct, rfl⟩ := own_slice8 h1
 obtain ⟨bb, cb, rfl⟩ := own_slice8 h2.choose_spec.choose_spec.1
 exact ⟨_, _, _, _, _, _, rfl, ho⟩
theorem u64_tgt {P Q G X Y Z : Int} {n : Nat} {A B Pp : Nat -> Int} {Ui Vi : Nat -> Nat -> Int} (hA : ∀ i, i < n -> U64 (A i)) (hB : ∀ i, i < n -> U64 (B i)) (hP : ∀ i, i < n -> U64 (Pp i)) (j : Nat) : U64 (tgtT P Q G X Y Z n A B Pp Ui Vi j) := by
 unfold tgtT tgt8
 split
 · exact hA _ (by omega)
 · split
  · exact hB _ (by omega)
  · split
   · exact u64_over _ _ _
   · split
    · exact hP _ (by omega)
    · split
     · exact u64_over _ _ _
     · unfold uvI; split <;> exact prodI_bd _ _ _
theorem u64_bas {G H y : Int} {n : Nat} {Pp : Nat -> Int} {O : Nat -> Nat -> Int} (hG : U64 G) (hH : U64 H) (hy : U64 y) (hP : ∀ i, i < n -> U64 (Pp i)) (hO : ∀ i k, i < n -> k < 6 -> U64 (O i k)) (j : Nat) (hj : j < 4 * n + 6) (k : Nat) : U64 (bas8 n Pp G H y (fun j w => O j (2 * w)) (fun j w => O j (2 * w + 1)) j k) := by
 have h1 : U64 1 := ⟨by decide, by decide⟩
 have r2 : ∀ p x q z, U64 x -> U64 z -> U64 (row28 p x q z k) := fun p x q z hx hz => by unfold row28; split; exact hx; split; exact hz; exact h1
 unfold bas8
 split
 · exact r2 _ _ _ _ hG hH
 · split
  · exact r2 _ _ _ _ hG hH
  · split
   · exact r2 _ _ _ _ hG hH
   · split
    · exact r2 _ _ _ _ (hP _ (by omega)) hH
    · split
     · unfold row18; split; exact hH; exact h1
     · split
      · unfold rowS8; split; exact hO _ _ (by omega) (by omega); split; exact hG; exact h1
      · unfold rowS8; split; exact hO _ _ (by omega) (by omega); split; exact hy; exact h1
def accS (P Q G H : Int) (label : List Int) (y : Int) (n : Nat) (C O : Nat -> Nat -> Int) (A B Pp : Nat -> Int) (nk : Nat) (K : Nat -> Int) (nz : Nat) (Xz : Nat -> Int) (Xc Yc Zc : Int) : Bool :=
 clmB P Q G y n C n O n A n B n Pp Yc Zc && accB P Q (4 * n + 6) (tgtT P Q G Xc Yc Zc n A B Pp (fun j w => C j (2 * w)) (fun j w => C j (2 * w + 1))) (4 * n + 6) (fun _ => 7 * n + 3) (bas8 n Pp G H y (fun j w => O j (2 * w)) (fun j w => O j (2 * w + 1))) nk K (chI label P Q G H (4 * n + 6) (tgtT P Q G Xc Yc Zc n A B Pp (fun j w => C j (2 * w)) (fun j w => C j (2 * w + 1))) (4 * n + 6) (fun _ => 7 * n + 3) (bas8 n Pp G H y (fun j w => O j (2 * w)) (fun j w => O j (2 * w + 1))) nk K) nz Xz
theorem lacc_any (P Q G H : Int) (a : Option Addr) (m cap : Nat) (label : List Int) (y : Int) (bi : Option Addr) (ci : Nat) (C : Nat -> Nat -> Int) (bo : Option Addr) (co : Nat) (O : Nat -> Nat -> Int) (ba : Option Addr) (ca : Nat) (A : Nat -> Int) (bb : Option Addr) (cb : Nat) (B : Nat -> Int) (bp : Option Addr) (cp : Nat) (Pp : Nat -> Int) (bk : Option Addr) (nk ck : Nat) (K : Nat -> Int) (bz : Option Addr) (nz cz : Nat) (Xz : Nat -> Int) (n : Nat) (Xc Yc Zc : Int) (w : World) (h1n : 0 < n) (hn : n <= 8) (h4 : Four P Q G H) (hr : Righ P Q G) (hy : U64 y) (hlb : Bts label) (hll : label.length <= 1000) (hca : n <= ca /\ ca <= 9223372036854775807) (hcb : n <= cb /\ cb <= 9223372036854775807) (mk : nk <= 80) (hC : BoxsIn w bi n C) (hO : BoxsIn w bo n O) (hA : FacsIn w ba n A) (hB : FacsIn w bb n B) (hP : FacsIn w bp n Pp) (hK : FacsIn w bk nk K) (hX : FacsIn w bz nz Xz)
  (hXc : Xc = chX label Q (knwS P Q G H y n C n O) n A) (hYc : Yc = chYZ 121 label Q (knwS P Q G H y n C n O) n A B) (hZc : Zc = chYZ 122 label Q (knwS P Q G H y n C n O) n A B) :
  Calls Tryz.prog 34 #[gv P Q G H a m cap, .string (strOfNums label), .int .u64 y, .slice bi n ci, .slice bo n co, .agg #[.slice ba n ca, .slice bb n cb, .slice bp n cp, .slice bk nk ck, .slice bz nz cz]] w (Ret w (.bool (accS P Q G H label y n C O A B Pp nk K nz Xz Xc Yc Zc))) := by
 have uX : U64 Xc := by rw [hXc]; exact u64_number _ _ _ _
 have uY : U64 Yc := by rw [hYc]; exact u64_number _ _ _ _
 have uZ : U64 Zc := by rw [hZc]; exact u64_number _ _ _ _
 have HSz : Hid (∀ wx, Calls Tryz.prog 79 #[.slice bi n ci, .slice bo n co, tk ba n ca 0 bb n cb 0 0 bp n cp] wx (Ret wx (.bool true))) := fun wx => by
  have := ssizes_any bi n ci bo n co ba n ca 0 bb n cb 0 0 bp n cp wx (by omega)
  rwa [show fitB n n n n n = true from fitB_iff.2 ⟨⟨h1n, hn⟩, rfl, rfl, rfl, rfl⟩] at this
 obtain ⟨S, hS⟩ : ∃ S, S = knwS P Q G H y n C n O := ⟨_, rfl⟩
 have HAs : Hid (∀ wx, Old w wx -> Calls Tryz.prog 89 #[gv P Q G H a m cap, .string (strOfNums label), .int .u64 y, .slice bi n ci, .slice bo n co] wx fun e w' => Old wx w' /\ ∃ kb sb lb qb, e = .returned (askV kb lb qb) /\ AskIn w' kb sb lb qb S label Q) := fun wx ho => by rw [hS]; exact sasker_any P Q G H a m cap label y bi n ci C bo n co O wx h4 hy (by omega) (by omega) (hC.old ho) (hO.old ho)
 have hSb : ∀ i, i < 3 -> Bts (S i) := by rw [hS]; exact knwS_bd _ _ _ _ _ _ _ _ _
 have hSl : ∀ i, (S i).length <= 640 := by rw [hS]; exact knwS_len _ _ _ _ _ _ _ hn hn
 have HX1 : Hid (∀ (wx : World) (b kb sb lb qb : Nat), Old w wx -> AskIn wx kb sb lb qb S label Q -> wx.heap[b]? = some (.cells #[.slice ba n ca] 29 (0, 0)) -> Calls Tryz.prog 127 #[.string (strOfNums [120]), .slice (some ⟨b, 0, none⟩) 1 1, .pointer (some ⟨kb, 0, none⟩), .pointer (some ⟨lb, 0, none⟩), .pointer (some ⟨qb, 0, none⟩)] wx (Ret wx (.int .u64 Xc))) := fun wx b kb sb lb qb ho hk hb => by
  rw [hXc, <- hS]
  exact sak_any [120] label S Q kb sb lb qb _ 1 1 _ _ _ _ wx (by intro x hx; simp at hx; subst hx; decide) (by simp) hSb hSl hlb hll (by omega) (fun j _ => by show n <= 80; omega) hk.k hk.s hk.l hk.g (lists_one hb hca.1 hca.2 (hA.old ho))
 have HX2 : Hid (∀ (c : Int) (wx : World) (b kb sb lb qb : Nat), 0 <= c -> c <= 255 -> Old w wx -> AskIn wx kb sb lb qb S label Q -> wx.heap[b]? = some (.cells #[.slice ba n ca, .slice bb n cb] 29 (0, 0)) -> Calls Tryz.prog 127 #[.string (strOfNums [c]), .slice (some ⟨b, 0, none⟩) 2 2, .pointer (some ⟨kb, 0, none⟩), .pointer (some ⟨lb, 0, none⟩), .pointer (some ⟨qb, 0, none⟩)] wx (Ret wx (.int .u64 (chYZ c label Q S n A B)))) := fun c wx b kb sb lb qb h0 h1 ho hk hb =>
  sak_any [c] label S Q kb sb lb qb _ 2 2 _ _ _ _ wx (by intro x hx; simp at hx; subst hx; exact ⟨h0, by omega⟩) (by simp) hSb hSl hlb hll (by omega) (fun j hj => by match j, hj with | 0, _ => (show n <= 80; omega) | 1, _ => (show n <= 80; omega)) hk.k hk.s hk.l hk.g (lists_two hb hca.1 hca.2 hcb.1 hcb.2 (hA.old ho) (hB.old ho))
 have hTu : ∀ j, U64 ((tgtT P Q G Xc Yc Zc n A B Pp (fun j w => C j (2 * w)) (fun j w => C j (2 * w + 1))) j) := u64_tgt (fun i hi => hA.u64 i hi) (fun i hi => hB.u64 i hi) (fun i hi => hP.u64 i hi)
 have hBu : ∀ j, j < 4 * n + 6 -> ∀ k, U64 ((bas8 n Pp G H y (fun j w => O j (2 * w)) (fun j w => O j (2 * w + 1))) j k) := u64_bas ⟨h4.g0, h4.g1⟩ ⟨h4.h0, h4.h1⟩ hy (fun i hi => hP.u64 i hi) (fun i k hi hk => hO.u64 hi hk)
 have HCl : Hid (∀ wx, Old w wx -> Calls Tryz.prog 28 #[gv P Q G H a m cap, .int .u64 y, .slice bi n ci, .slice bo n co, tk ba n ca Xc bb n cb Yc Zc bp n cp] wx (GivD wx (clmB P Q G y n C n O n A n B n Pp Yc Zc) (4 * n + 6) ((tgtT P Q G Xc Yc Zc n A B Pp (fun j w => C j (2 * w)) (fun j w => C j (2 * w + 1)))) (fun _ => 7 * n + 3) ((bas8 n Pp G H y (fun j w => O j (2 * w)) (fun j w => O j (2 * w + 1)))))) := fun wx ho => sclaim_any P Q G H a m cap y bi n ci C bo n co O ba n ca A Xc bb n cb B Yc Zc bp n cp Pp wx (by omega) h4 hr hy uX uY uZ (hC.old ho) (hO.old ho) (hA.old ho) (hB.old ho) (hP.old ho)
 obtain ⟨acc, hacc⟩ : ∃ acc, acc = accB P Q (4 * n + 6) ((tgtT P Q G Xc Yc Zc n A B Pp (fun j w => C j (2 * w)) (fun j w => C j (2 * w + 1)))) (4 * n + 6) (fun _ => 7 * n + 3) ((bas8 n Pp G H y (fun j w => O j (2 * w)) (fun j w => O j (2 * w + 1)))) nk K (chI label P Q G H (4 * n + 6) ((tgtT P Q G Xc Yc Zc n A B Pp (fun j w => C j (2 * w)) (fun j w => C j (2 * w + 1)))) (4 * n + 6) (fun _ => 7 * n + 3) ((bas8 n Pp G H y (fun j w => O j (2 * w)) (fun j w => O j (2 * w + 1)))) nk K) nz Xz := ⟨_, rfl⟩
 have HAc : Hid (∀ wx bt ct b2 c2 BA Cc, Old w wx -> ClaimIn wx bt (4 * n + 6) ct ((tgtT P Q G Xc Yc Zc n A B Pp (fun j w => C j (2 * w)) (fun j w => C j (2 * w + 1)))) b2 (4 * n + 6) c2 BA (fun _ => 7 * n + 3) Cc ((bas8 n Pp G H y (fun j w => O j (2 * w)) (fun j w => O j (2 * w + 1)))) -> Calls Tryz.prog 94 #[gv P Q G H a m cap, .string (strOfNums label), cv bt (4 * n + 6) ct b2 (4 * n + 6) c2, cv bk nk ck bz nz cz] wx (Ret wx (.bool acc))) := fun wx bt ct b2 c2 BA Cc ho hc => by
  rw [hacc]
  exact paccept7_any label P Q G H a m cap bt (4 * n + 6) ct _ b2 (4 * n + 6) c2 BA _ Cc _ bk nk ck K bz nz cz Xz wx h4 hr hlb hll (by omega) (by omega) (fun j _ => by show 7 * n + 3 <= 80; omega) mk hc (hK.old ho) (hX.old ho)
 have HV : Hid (accS P Q G H label y n C O A B Pp nk K nz Xz Xc Yc Zc = (clmB P Q G y n C n O n A n B n Pp Yc Zc && acc)) := by unfold Hid accS; rw [hacc]
 rw [HV.out]
 rw [<- hS] at hYc hZc
 generalize clmB P Q G y n C n O n A n B n Pp Yc Zc = ok at *
 generalize (tgtT P Q G Xc Yc Zc n A B Pp (fun j w => C j (2 * w)) (fun j w => C j (2 * w + 1))) = Tg at *
 generalize (bas8 n Pp G H y (fun j w => O j (2 * w)) (fun j w => O j (2 * w + 1))) = Bg at *
 have HTu : Hid (∀ j, U64 (Tg j)) := hTu
 have HBu : Hid (∀ j, j < 4 * n + 6 -> ∀ k, U64 (Bg j k)) := hBu
 have HYc : Hid (chYZ 121 label Q S n A B = Yc) := hYc.symm
 have HZc : Hid (chYZ 122 label Q S n A B = Zc) := hZc.symm
 clear h4 hr hy hlb hll hca hcb mk hC hO hA hB hP hK hX hXc hYc hZc uX uY uZ hSb hSl hS hTu hBu hacc HV
 have HZ := lain2 w (gc P Q G H a m cap) #[.slice ba n ca, .slice bb n cb, .slice bp n cp, .slice bk nk ck, .slice bz nz cz] 25 57
 have HG0 := fun w' ho => (HZ.then (W' := w') ho).row 0 (by simp)
 have HT0 := fun w' ho => (HZ.then (W' := w') ho).row 1 (by simp)
 have HW0 : Hid (Old w ((w.alloc (.cells (gc P Q G H a m cap) 25)).alloc (.cells #[.slice ba n ca, .slice bb n cb, .slice bp n cp, .slice bk nk ck, .slice bz nz cz] 57))) := HZ.old
 clear HZ
 go_enter Tryz.func34, Tryz.ntmps34
 go_upto_region 1 with fail
 generalize (w.alloc (.cells (gc P Q G H a m cap) 25)).alloc (.cells #[.slice ba n ca, .slice bb n cb, .slice bp n cp, .slice bk nk ck, .slice bz nz cz] 57) = W1 at *
 have HG : Hid (∀ wx, Old W1 wx -> wx.heap[w.heap.size]? = some (.cells (gc P Q G H a m cap) 25 (0, 0))) := HG0
 have HS1 : Hid (∀ wx, Old W1 wx -> wx.heap[w.heap.size + 1]? = some (.cells #[.slice ba n ca, .slice bb n cb, .slice bp n cp, .slice bk nk ck, .slice bz nz cz] 57 (0, 0))) := HT0
 clear HG0 HT0
 obtain ⟨gb, hgb⟩ : ∃ gb, gb = w.heap.size := ⟨_, rfl⟩
 rw [<- hgb] at HG HS1
 rw [<- hgb]
 clear hgb
 have HGc : Hid (∀ wx, Old W1 wx -> wx.cell? ⟨gb, 0, none⟩ = some (.int .u64 P) /\ wx.cell? ⟨gb, 1, none⟩ = some (.int .u64 Q) /\ wx.cell? ⟨gb, 2, none⟩ = some (.int .u64 G) /\ wx.cell? ⟨gb, 3, none⟩ = some (.int .u64 H) /\ wx.cell? ⟨gb, 4, none⟩ = some (.slice a m cap)) := fun wx ho => ⟨cell_of_row _ _ 0 _ _ (0, 0) (HG.out _ ho), cell_of_row _ _ 1 _ _ (0, 0) (HG.out _ ho), cell_of_row _ _ 2 _ _ (0, 0) (HG.out _ ho), cell_of_row _ _ 3 _ _ (0, 0) (HG.out _ ho), cell_of_row _ _ 4 _ _ (0, 0) (HG.out _ ho)⟩
 have HSc : Hid (∀ wx, Old W1 wx -> wx.cell? ⟨gb + 1, 0, none⟩ = some (.slice ba n ca) /\ wx.cell? ⟨gb + 1, 1, none⟩ = some (.slice bb n cb) /\ wx.cell? ⟨gb + 1, 2, none⟩ = some (.slice bp n cp) /\ wx.cell? ⟨gb + 1, 3, none⟩ = some (.slice bk nk ck) /\ wx.cell? ⟨gb + 1, 4, none⟩ = some (.slice bz nz cz)) := fun wx ho => ⟨cell_of_row _ _ 0 _ _ (0, 0) (HS1.out _ ho), cell_of_row _ _ 1 _ _ (0, 0) (HS1.out _ ho), cell_of_row _ _ 2 _ _ (0, 0) (HS1.out _ ho), cell_of_row _ _ 3 _ _ (0, 0) (HS1.out _ ho), cell_of_row _ _ 4 _ _ (0, 0) (HS1.out _ ho)⟩
 clear HG HS1
 obtain ⟨s0, s1, s2, s3, s4⟩ := HSc.out _ (Old.refl _)
 have HO2 : Hid (Old W1 (W1.alloc (.cells (tkc ba n ca 0 bb n cb 0 0 bp n cp) 41))) := (Old.refl _).alloc _
 have HR2 : Hid ((W1.alloc (.cells (tkc ba n ca 0 bb n cb 0 0 bp n cp) 41)).heap[W1.heap.size]? = some (.cells (tkc ba n ca 0 bb n cb 0 0 bp n cp) 41 (0, 0))) := heap_alloc_last _ _
 go_upto_region 2 with fail
 clear s0 s1 s2 s3 s4
 generalize W1.alloc (.cells (tkc ba n ca 0 bb n cb 0 0 bp n cp) 41) = W2 at *
 obtain ⟨tb, htb⟩ : ∃ tb, tb = W1.heap.size := ⟨_, rfl⟩
 rw [<- htb] at HR2
 rw [<- htb]
 have Htb : Hid (W1.heap.size <= tb) := by unfold Hid; omega
 clear htb
 have HTc : Hid (∀ wx, Old W2 wx -> wx.cell? ⟨tb, 0, none⟩ = some (.slice ba n ca) /\ wx.cell? ⟨tb, 1, none⟩ = some (.int .u64 0) /\ wx.cell? ⟨tb, 2, none⟩ = some (.slice bb n cb) /\ wx.cell? ⟨tb, 3, none⟩ = some (.int .u64 0) /\ wx.cell? ⟨tb, 4, none⟩ = some (.int .u64 0) /\ wx.cell? ⟨tb, 5, none⟩ = some (.slice bp n cp)) := fun wx ho => by
  have hrow := (ho.block _ (obj_lt HR2.out)).trans HR2.out
  exact ⟨cell_of_row _ _ 0 _ _ (0, 0) hrow, cell_of_row _ _ 1 _ _ (0, 0) hrow, cell_of_row _ _ 2 _ _ (0, 0) hrow, cell_of_row _ _ 3 _ _ (0, 0) hrow, cell_of_row _ _ 4 _ _ (0, 0) hrow, cell_of_row _ _ 5 _ _ (0, 0) hrow⟩
 obtain ⟨t0, t1, t2, t3, t4, t5⟩ := HTc.out _ (Old.refl _)
 go_upto_region 4 with (go_at_call 79; refine (HSz.out _).mono ?_; rintro e w3 ⟨rfl, o3⟩)
 clear t0 t1 t2 t3 t4 t5 HTc
 have HO3 : Hid (Old W1 w3) := HO2.out.trans o3
 obtain ⟨g0, g1, g2, g3, g4⟩ := HGc.out _ HO3.out
 go_upto_region 5 with (go_at_call 89; refine (HAs.out _ (HW0.out.trans HO3.out)).mono ?_; rintro e w4 ⟨o4, kb, sb, lb, qb, rfl, hask⟩)
 clear g0 g1 g2 g3 g4
 have HAk : Hid (∀ wx, Old w4 wx -> AskIn wx kb sb lb qb S label Q) := fun wx ho => hask.old ho
 have HO4 : Hid (Old W1 w4) := HO3.out.trans o4
 have HR4 : Hid (w4.heap[tb]? = some (.cells (tkc ba n ca 0 bb n cb 0 0 bp n cp) 41 (0, 0))) := ((o3.trans o4).block _ (obj_lt HR2.out)).trans HR2.out
 have HTr : Hid (∀ wx, Old w4 wx -> wx.heap[tb]? = some (.cells (tkc ba n ca 0 bb n cb 0 0 bp n cp) 41 (0, 0))) := fun wx ho => (ho.block _ (obj_lt HR4.out)).trans HR4.out
 clear hask o3 o4 HO3 HR2 HO2 HSz HAs
 refine wp_region_tab 20 [.k (askV kb lb qb), .k (.pointer (some ⟨tb, 0, none⟩)), .k (.slice ba n ca), blkE 1 #[.slice ba n ca] 29, .k (.int .u64 Xc), .k (askV kb lb qb), .k (.pointer (some ⟨tb, 0, none⟩)), .k (.slice ba n ca), .k (.pointer (some ⟨tb, 2, none⟩)), .k (.slice bb n cb), blkE 2 #[.slice ba n ca, .slice bb n cb] 29, .k (.int .u64 Yc), .k (askV kb lb qb), .k (.pointer (some ⟨tb, 0, none⟩)), .k (.slice ba n ca), .k (.pointer (some ⟨tb, 2, none⟩)), .k (.slice bb n cb), blkE 2 #[.slice ba n ca, .slice bb n cb] 29, .k (.int .u64 Zc), .k (.pointer (some ⟨tb, 1, none⟩))] (Old w4) (by kernel_rfl) (by kernel_rfl) rfl ((Old.refl _).drew) ?st ?_
 case st =>
  refine .c stp <| .c stp <| .c (stf 0 Tryz.underlying29 HTr.out) <| .c (stm (ob := fun t => .cells #[.slice ba n ca] 29) (v := fun s => .slice (some ⟨s, 0, none⟩) 1 1) old_R fun t wx hR hd => ⟨_, rfl, heap_alloc_last _ _⟩) <| .c (stCf #[.pointer (some ⟨kb, 0, none⟩), .pointer (some ⟨lb, 0, none⟩), .pointer (some ⟨qb, 0, none⟩)] (args := fun t => #[.string (strOfNums [120]), t 3, .pointer (some ⟨kb, 0, none⟩), .pointer (some ⟨lb, 0, none⟩), .pointer (some ⟨qb, 0, none⟩)]) old_R Tryz.func127 fun t wx hR hd => ?_) <| .c stp <| .c stp <| .c (stf 0 Tryz.underlying29 HTr.out) <| .c stp <| .c (stf 2 Tryz.underlying29 HTr.out) <| .c (stm (ob := fun t => .cells #[.slice ba n ca, .slice bb n cb] 29) (v := fun s => .slice (some ⟨s, 0, none⟩) 2 2) old_R fun t wx hR hd => ⟨_, rfl, heap_alloc_last _ _⟩) <| .c (stCf #[.pointer (some ⟨kb, 0, none⟩), .pointer (some ⟨lb, 0, none⟩), .pointer (some ⟨qb, 0, none⟩)] (args := fun t => #[.string (strOfNums [121]), t 10, .pointer (some ⟨kb, 0, none⟩), .pointer (some ⟨lb, 0, none⟩), .pointer (some ⟨qb, 0, none⟩)]) old_R Tryz.func127 fun t wx hR hd => ?_) <| .c stp <| .c stp <| .c (stf 0 Tryz.underlying29 HTr.out) <| .c stp <| .c (stf 2 Tryz.underlying29 HTr.out) <| .c (stm (ob := fun t => .cells #[.slice ba n ca, .slice bb n cb] 29) (v := fun s => .slice (some ⟨s, 0, none⟩) 2 2) old_R fun t wx hR hd => ⟨_, rfl, heap_alloc_last _ _⟩) <| .c (stCf #[.pointer (some ⟨kb, 0, none⟩), .pointer (some ⟨lb, 0, none⟩), .pointer (some ⟨qb, 0, none⟩)] (args := fun t => #[.string (strOfNums [122]), t 17, .pointer (some ⟨kb, 0, none⟩), .pointer (some ⟨lb, 0, none⟩), .pointer (some ⟨qb, 0, none⟩)]) old_R Tryz.func127 fun t wx hR hd => ?_) <| .c stp .n
  · obtain ⟨b, e, hb⟩ : ∃ b, t 3 = .slice (some ⟨b, 0, none⟩) 1 1 /\ wx.heap[b]? = some (.cells #[.slice ba n ca] 29 (0, 0)) := hd 3 (by kernel_rfl)
   rw [e]
   exact (HX1.out wx b kb sb lb qb (HW0.out.trans (HO4.out.trans hR)) (HAk.out wx hR) hb).mono fun r w' ⟨h, k⟩ => ⟨_, h, k, rfl⟩
  · obtain ⟨b, e, hb⟩ : ∃ b, t 10 = .slice (some ⟨b, 0, none⟩) 2 2 /\ wx.heap[b]? = some (.cells #[.slice ba n ca, .slice bb n cb] 29 (0, 0)) := hd 10 (by kernel_rfl)
   rw [e]
   exact (HX2.out 121 wx b kb sb lb qb (by decide) (by decide) (HW0.out.trans (HO4.out.trans hR)) (HAk.out wx hR) hb).mono fun r w' ⟨h, k⟩ => ⟨_, h, k, by rw [HYc.out]; rfl⟩
  · obtain ⟨b, e, hb⟩ : ∃ b, t 17 = .slice (some ⟨b, 0, none⟩) 2 2 /\ wx.heap[b]? = some (.cells #[.slice ba n ca, .slice bb n cb] 29 (0, 0)) := hd 17 (by kernel_rfl)
   rw [e]
   exact (HX2.out 122 wx b kb sb lb qb (by decide) (by decide) (HW0.out.trans (HO4.out.trans hR)) (HAk.out wx hR) hb).mono fun r w' ⟨h, k⟩ => ⟨_, h, k, by rw [HZc.out]; rfl⟩
 intro t wx hR hk
 simp only [fill, Ent.val, blkE, List.set_cons_zero, List.set_cons_succ, List.drop_succ_cons, List.drop_zero, List.drop_nil]
 have hrow := HTr.out _ hR
 have q1 : wx.cell? ⟨tb, 1, none⟩ = some (.int .u64 0) := cell_of_row _ _ 1 _ _ (0, 0) hrow
 have q3 : wx.cell? ⟨tb, 3, none⟩ = some (.int .u64 0) := cell_of_row _ _ 3 _ _ (0, 0) hrow
 have q4 : wx.cell? ⟨tb, 4, none⟩ = some (.int .u64 0) := cell_of_row _ _ 4 _ _ (0, 0) hrow
 have f1 : wx.frozen? ⟨tb, 1, none⟩ = false := row_frozen hrow 1
 have f3 : wx.frozen? ⟨tb, 3, none⟩ = false := row_frozen hrow 3
 have f4 : wx.frozen? ⟨tb, 4, none⟩ = false := row_frozen hrow 4
 have HO5 : Hid (Old W1 (((wx.setCell ⟨tb, 1, none⟩ (.int .u64 Xc)).setCell ⟨tb, 3, none⟩ (.int .u64 Yc)).setCell ⟨tb, 4, none⟩ (.int .u64 Zc))) := (((HO4.out.trans hR).setCell (p := ⟨tb, 1, none⟩) Htb.out _).setCell (p := ⟨tb, 3, none⟩) Htb.out _).setCell (p := ⟨tb, 4, none⟩) Htb.out _
 have HR5 : Hid ((((wx.setCell ⟨tb, 1, none⟩ (.int .u64 Xc)).setCell ⟨tb, 3, none⟩ (.int .u64 Yc)).setCell ⟨tb, 4, none⟩ (.int .u64 Zc)).heap[tb]? = some (.cells (tkc ba n ca Xc bb n cb Yc Zc bp n cp) 41 (0, 0))) := by
  have := set_row (set_row (set_row hrow 1 (.int .u64 Xc)) 3 (.int .u64 Yc)) 4 (.int .u64 Zc)
  unfold Hid; simpa using this
 clear hrow hR hk HTr HR4 HO4 HAk HX1 HX2 HYc HZc
 go_upto_region 6 with fail
 clear q1 q3 q4 f1 f3 f4
 generalize (((wx.setCell ⟨tb, 1, none⟩ (.int .u64 Xc)).setCell ⟨tb, 3, none⟩ (.int .u64 Yc)).setCell ⟨tb, 4, none⟩ (.int .u64 Zc)) = w5 at *
 have t0 : w5.cell? ⟨tb, 0, none⟩ = some (.slice ba n ca) := cell_of_row _ _ 0 _ _ (0, 0) HR5.out
 have t1 : w5.cell? ⟨tb, 1, none⟩ = some (.int .u64 Xc) := cell_of_row _ _ 1 _ _ (0, 0) HR5.out
 have t2 : w5.cell? ⟨tb, 2, none⟩ = some (.slice bb n cb) := cell_of_row _ _ 2 _ _ (0, 0) HR5.out
 have t3 : w5.cell? ⟨tb, 3, none⟩ = some (.int .u64 Yc) := cell_of_row _ _ 3 _ _ (0, 0) HR5.out
 have t4 : w5.cell? ⟨tb, 4, none⟩ = some (.int .u64 Zc) := cell_of_row _ _ 4 _ _ (0, 0) HR5.out
 have t5 : w5.cell? ⟨tb, 5, none⟩ = some (.slice bp n cp) := cell_of_row _ _ 5 _ _ (0, 0) HR5.out
 obtain ⟨g0, g1, g2, g3, g4⟩ := HGc.out _ HO5.out
 cases ok with
 | true =>
  go_upto_region 7 with (go_at_call 28; refine (HCl.out _ (HW0.out.trans HO5.out)).mono ?_; intro e w6 hd; obtain ⟨bt, ct, b2, c2, BA, Cc, rfl, o6, hcl⟩ := GivD.made hd (fun j _ => HTu.out j) (fun j hj i _ => HBu.out j hj i))
  clear t0 t1 t2 t3 t4 t5 g0 g1 g2 g3 g4 hd
  have HOc : Old w6 (w6.alloc (.cells #[.slice bt (4 * n + 6) ct, .slice b2 (4 * n + 6) c2] 50)) := (Old.refl _).alloc _
  have HO7 : Hid (Old W1 (w6.alloc (.cells #[.slice bt (4 * n + 6) ct, .slice b2 (4 * n + 6) c2] 50))) := (HO5.out.trans o6).trans HOc
  have HC7 : Hid (ClaimIn (w6.alloc (.cells #[.slice bt (4 * n + 6) ct, .slice b2 (4 * n + 6) c2] 50)) bt (4 * n + 6) ct Tg b2 (4 * n + 6) c2 BA (fun _ => 7 * n + 3) Cc Bg) := hcl.old HOc
  have hrow := heap_alloc_last w6 (.cells #[.slice bt (4 * n + 6) ct, .slice b2 (4 * n + 6) c2] 50)
  have c0 : (w6.alloc (.cells #[.slice bt (4 * n + 6) ct, .slice b2 (4 * n + 6) c2] 50)).cell? ⟨w6.heap.size, 0, none⟩ = some (.slice bt (4 * n + 6) ct) := cell_of_row _ _ 0 _ _ (0, 0) hrow
  have c1 : (w6.alloc (.cells #[.slice bt (4 * n + 6) ct, .slice b2 (4 * n + 6) c2] 50)).cell? ⟨w6.heap.size, 1, none⟩ = some (.slice b2 (4 * n + 6) c2) := cell_of_row _ _ 1 _ _ (0, 0) hrow
  clear hrow HOc hcl HTu HBu HCl HR5
  generalize w6.alloc (.cells #[.slice bt (4 * n + 6) ct, .slice b2 (4 * n + 6) c2] 50) = w7 at *
  obtain ⟨g0, g1, g2, g3, g4⟩ := HGc.out _ HO7.out
  obtain ⟨s0, s1, s2, s3, s4⟩ := HSc.out _ HO7.out
  clear s0 s1 s2
  go_wp2_with (go_at_call 94; refine (HAc.out _ bt ct b2 c2 BA Cc (HW0.out.trans HO7.out) HC7.out).mono ?_; rintro e w8 ⟨rfl, o8⟩)
  go_ret
  exact ⟨by rfl, (HW0.out.trans HO7.out).trans o8⟩
 | false =>
  go_upto_region 7 with (go_at_call 28; refine (HCl.out _ (HW0.out.trans HO5.out)).mono ?_; intro e w6 hd; obtain ⟨bt, nt', ct, b2, nb', c2, rfl, o6⟩ := GivD.none hd)
  clear t0 t1 t2 t3 t4 t5 g0 g1 g2 g3 g4 hd
  have HO7 : Hid (Old w (w6.alloc (.cells #[.slice bt nt' ct, .slice b2 nb' c2] 50))) := ((HW0.out.trans HO5.out).trans o6).alloc _
  go_wp2_with fail
  go_ret
  exact ⟨by rfl, HO7.out⟩
theorem sacc_no (P Q G H : Int) (a : Option Addr) (m cap : Nat) (label : List Int) (y : Int) (bi : Option Addr) (l ci : Nat) (bo : Option Addr) (no co : Nat) (ba : Option Addr) (na ca : Nat) (bb : Option Addr) (nb cb : Nat) (bp : Option Addr) (np cp : Nat) (bk : Option Addr) (nk ck : Nat) (bz : Option Addr) (nz cz : Nat) (w : World) (hl : l <= 9223372036854775807) (hf : fitB l no na nb np = false) :
  Calls Tryz.prog 34 #[gv P Q G H a m cap, .string (strOfNums label), .int .u64 y, .slice bi l ci, .slice bo no co, .agg #[.slice ba na ca, .slice bb nb cb, .slice bp np cp, .slice bk nk ck, .slice bz nz cz]] w (Ret w (.bool false)) := by
 have HSz : Hid (∀ wx, Calls Tryz.prog 79 #[.slice bi l ci, .slice bo no co, tk ba na ca 0 bb nb cb 0 0 bp np cp] wx (Ret wx (.bool false))) := fun wx => by
  have := ssizes_any bi l ci bo no co ba na ca 0 bb nb cb 0 0 bp np cp wx hl
  rwa [hf] at this
 clear hl hf
 have HZ := lain2 w (gc P Q G H a m cap) #[.slice ba na ca, .slice bb nb cb, .slice bp np cp, .slice bk nk ck, .slice bz nz cz] 25 57
 have HT0 := fun w' ho => (HZ.then (W' := w') ho).row 1 (by simp)
 have HW0 : Hid (Old w ((w.alloc (.cells (gc P Q G H a m cap) 25)).alloc (.cells #[.slice ba na ca, .slice bb nb cb, .slice bp np cp, .slice bk nk ck, .slice bz nz cz] 57))) := HZ.old
 clear HZ
 go_enter Tryz.func34, Tryz.ntmps34
 go_upto_region 1 with fail
 generalize (w.alloc (.cells (gc P Q G H a m cap) 25)).alloc (.cells #[.slice ba na ca, .slice bb nb cb, .slice bp np cp, .slice bk nk ck, .slice bz nz cz] 57) = W1 at *
 have HS1 : Hid (∀ wx, Old W1 wx -> wx.heap[w.heap.size + 1]? = some (.cells #[.slice ba na ca, .slice bb nb cb, .slice bp np cp, .slice bk nk ck, .slice bz nz cz] 57 (0, 0))) := HT0
 clear HT0
 generalize w.heap.size = gb at *
 have s0 : W1.cell? ⟨gb + 1, 0, none⟩ = some (.slice ba na ca) := cell_of_row _ _ 0 _ _ (0, 0) (HS1.out _ (Old.refl _))
 have s1 : W1.cell? ⟨gb + 1, 1, none⟩ = some (.slice bb nb cb) := cell_of_row _ _ 1 _ _ (0, 0) (HS1.out _ (Old.refl _))
 have s2 : W1.cell? ⟨gb + 1, 2, none⟩ = some (.slice bp np cp) := cell_of_row _ _ 2 _ _ (0, 0) (HS1.out _ (Old.refl _))
 have HO2 : Hid (Old W1 (W1.alloc (.cells (tkc ba na ca 0 bb nb cb 0 0 bp np cp) 41))) := (Old.refl _).alloc _
 have HR2 : Hid ((W1.alloc (.cells (tkc ba na ca 0 bb nb cb 0 0 bp np cp) 41)).heap[W1.heap.size]? = some (.cells (tkc ba na ca 0 bb nb cb 0 0 bp np cp) 41 (0, 0))) := heap_alloc_last _ _
 go_upto_region 2 with fail
 clear s0 s1 s2 HS1
 generalize W1.alloc (.cells (tkc ba na ca 0 bb nb cb 0 0 bp np cp) 41) = W2 at *
 generalize W1.heap.size = tb at *
 have t0 : W2.cell? ⟨tb, 0, none⟩ = some (.slice ba na ca) := cell_of_row _ _ 0 _ _ (0, 0) HR2.out
 have t1 : W2.cell? ⟨tb, 1, none⟩ = some (.int .u64 0) := cell_of_row _ _ 1 _ _ (0, 0) HR2.out
 have t2 : W2.cell? ⟨tb, 2, none⟩ = some (.slice bb nb cb) := cell_of_row _ _ 2 _ _ (0, 0) HR2.out
 have t3 : W2.cell? ⟨tb, 3, none⟩ = some (.int .u64 0) := cell_of_row _ _ 3 _ _ (0, 0) HR2.out
 have t4 : W2.cell? ⟨tb, 4, none⟩ = some (.int .u64 0) := cell_of_row _ _ 4 _ _ (0, 0) HR2.out
 have t5 : W2.cell? ⟨tb, 5, none⟩ = some (.slice bp np cp) := cell_of_row _ _ 5 _ _ (0, 0) HR2.out
 go_wp2_with (go_at_call 79; refine (HSz.out _).mono ?_; rintro e w3 ⟨rfl, o3⟩)
 go_ret
 exact ⟨rfl, (HW0.out.trans HO2.out).trans o3⟩
end
section
open Go.RowKit
theorem info_proof : (Tryz.prog.info? 55).map (·.size) = some 2 := by kernel_rfl
def GivesP (w : World) (ok : Bool) (nt : Nat) (F : Nat -> Int) (nz : Nat) (Z : Nat -> Int) (r : Ending) (w' : World) : Prop :=
 Old w w' /\ ∃ v u, r = .returned (.tuple #[.agg #[v, u], .bool ok]) /\ Nums w' w.heap.size v (if ok then nt else 0) F /\ Nums w' w.heap.size u (if ok then nz else 0) Z
theorem givesP_no {w w' : World} {ok : Bool} {nt : Nat} {F : Nat -> Int} {nz : Nat} {Z : Nat -> Int} (h : ok = false) (ho : Old w w') : GivesP w ok nt F nz Z (.returned (.tuple #[.agg #[.slice none 0 0, .slice none 0 0], .bool false])) w' := by
 subst h
 exact ⟨ho, _, _, rfl, nums_nil _ _ _, nums_nil _ _ _⟩
theorem givesP_yes {w w' : World} {ok : Bool} {nt : Nat} {F : Nat -> Int} {nz : Nat} {Z : Nat -> Int} {v u : Value} (h : ok = true) (ho : Old w w') (h1 : Nums w' w.heap.size v nt F) (h2 : Nums w' w.heap.size u nz Z) : GivesP w ok nt F nz Z (.returned (.tuple #[.agg #[v, u], .bool true])) w' := by
 subst h
 exact ⟨ho, _, _, rfl, h1, h2⟩
theorem u64_ans (Q e w d : Int) : U64 (ansI Q e w d) := ⟨(addI_bd _ _ _).1, Int.le_trans (addI_bd _ _ _).2 (by omega)⟩
def provB (sz nw nd : Nat) : Bool := fitsB sz nd && decide (nw = nd)
set_option linter.unusedSimpArgs false in
theorem rprove_any (label : List Int) (P Q G H : Int) (a : Option Addr) (n cap : Nat) (bt : Option Addr) (nt ct : Nat) (T : Nat -> Int) (bb : Option Addr) (nb cb : Nat) (BA : Nat -> Option Addr) (L C : Nat -> Nat) (B : Nat -> Nat -> Int) (bw : Option Addr) (nw cw : Nat) (X : Nat -> Int) (bd : Option Addr) (nd cd : Nat) (Y : Nat -> Int) (F : Nat -> Int) (hF : F = fun j => imI P Q (B j) Y (sizeN P Q nt T nb L B)) (w : World) (h4 : Four P Q G H) (hlb : Bts label) (hll : label.length <= 1000) (mt : nt <= 80) (mb : nb <= 80) (mL : ∀ j, j < nb -> L j <= 80) (mw : nw <= 80) (hC : ClaimIn w bt nt ct T bb nb cb BA L C B) (hX : FacsIn w bw nw X) (hY : FacsIn w bd nd Y) :
  Calls Tryz.prog 92 #[gv P Q G H a n cap, .string (strOfNums label), cv bt nt ct bb nb cb, .slice bw nw cw, .slice bd nd cd] w (GivesP w (provB (sizeN P Q nt T nb L B) nw nd) nt F nw (fun k => ansI Q (chI label P Q G H nt T nb L B nt F) (X k) (Y k))) := by
 have HZ := lain3 w (gc P Q G H a n cap) (cc bt nt ct bb nb cb) (cc none 0 0 none 0 0) 25 50 55
 have HT : Hid (∀ w', Old (((w.alloc (.cells (gc P Q G H a n cap) 25)).alloc (.cells (cc bt nt ct bb nb cb) 50)).alloc (.cells (cc none 0 0 none 0 0) 55)) w' -> w'.cell? ⟨w.heap.size, 0, none⟩ = some (.int .u64 P) /\ w'.cell? ⟨w.heap.size, 1, none⟩ = some (.int .u64 Q) /\ w'.cell? ⟨w.heap.size, 2, none⟩ = some (.int .u64 G) /\ w'.cell? ⟨w.heap.size, 3, none⟩ = some (.int .u64 H) /\ w'.cell? ⟨w.heap.size, 4, none⟩ = some (.slice a n cap) /\ w'.cell? ⟨w.heap.size + 1, 0, none⟩ = some (.slice bt nt ct) /\ w'.cell? ⟨w.heap.size + 1, 1, none⟩ = some (.slice bb nb cb)) := fun w' ho => by
  have h := HZ.then ho
  exact ⟨h.cell 0 0 (by simp) rfl, h.cell 0 1 (by simp) rfl, h.cell 0 2 (by simp) rfl, h.cell 0 3 (by simp) rfl, h.cell 0 4 (by simp) rfl, h.cell 1 0 (by simp) rfl, h.cell 1 1 (by simp) rfl⟩
 have HRS : Hid (∀ w', Old (((w.alloc (.cells (gc P Q G H a n cap) 25)).alloc (.cells (cc bt nt ct bb nb cb) 50)).alloc (.cells (cc none 0 0 none 0 0) 55)) w' -> w'.heap[w.heap.size + 1 + 1]? = some (.cells #[.slice none 0 0, .slice none 0 0] 55 (0, 0))) := fun w' ho => (HZ.then ho).row 2 (by simp)
 have HIm : Hid (∀ wx, Old w wx -> Calls Tryz.prog 133 #[gv P Q G H a n cap, cv bt nt ct bb nb cb, .slice bd nd cd] wx (Gives wx (fitsB (sizeN P Q nt T nb L B) nd) nt F)) := fun wx ho => by rw [hF]; exact rimage_any P Q G H a n cap bt nt ct T bb nb cb BA L C B bd nd cd Y wx h4 (hC.old ho) (hY.old ho)
 have HFU : Hid (∀ j, U64 (F j)) := fun j => by rw [hF]; exact u64_prod _ _ _
 have HCh : Hid (∀ b c wx, Old w wx -> FacsIn wx b nt F -> Calls Tryz.prog 135 #[gv P Q G H a n cap, .string (strOfNums label), cv bt nt ct bb nb cb, .slice b nt c] wx fun e w' => e = .returned (.int .u64 (chI label P Q G H nt T nb L B nt F)) /\ Old wx w') := fun b c wx ho hf => rchal_any label P Q G H a n cap bt nt ct T bb nb cb BA L C B b nt c F wx h4 hlb hll mt mb mL mt (hC.old ho) hf
 have hcu := ch_u64 label P Q G H nt T nb L B nt F
 generalize chI label P Q G H nt T nb L B nt F = ch at *
 obtain ⟨Z, hZ⟩ : ∃ Z : Nat -> Int, Z = fun k => ansI Q ch (X k) (Y k) := ⟨_, rfl⟩
 rw [<- hZ]
 have HAn : Hid (∀ wx, Old w wx -> Calls Tryz.prog 134 #[gv P Q G H a n cap, .slice bw nw cw, .slice bd nd cd, .int .u64 ch] wx (Gives wx (decide (nw = nd)) nw Z)) := fun wx ho => by rw [hZ]; exact ranswer_any P Q G H a n cap bw nw cw X bd nd cd Y ch wx hcu mw (hX.old ho) (hY.old ho)
 have HZU : Hid (∀ k, U64 (Z k)) := fun k => by rw [hZ]; exact u64_ans _ _ _ _
 clear hZ hF h4 hlb hll mL hC hX hY hcu mt mb
 generalize sizeN P Q nt T nb L B = sz at *
 cases hok : fitsB sz nd with
 | false =>
  have HN : Hid (provB sz nw nd = false) := by unfold Hid provB; rw [hok]; rfl
  rw [hok] at HIm
  clear hok
  go_enter Tryz.func92, Tryz.ntmps92
  go_upto_region 1 with fail
  have HW0 : Hid (Old w (((w.alloc (.cells (gc P Q G H a n cap) 25)).alloc (.cells (cc bt nt ct bb nb cb) 50)).alloc (.cells (cc none 0 0 none 0 0) 55))) := HZ.old
  generalize hW : ((w.alloc (.cells (gc P Q G H a n cap) 25)).alloc (.cells (cc bt nt ct bb nb cb) 50)).alloc (.cells (cc none 0 0 none 0 0) 55) = W at *
  clear hW
  obtain ⟨d0, d1, d2, d3, d4, z0, z1⟩ := HT.out _ (Old.refl _)
  go_upto_region 2 with (go_at_call 133; refine (HIm.out _ HW0.out).mono ?_; rintro e w2 ⟨v, rfl, hN, h2⟩)
  clear d0 d1 d2 d3 d4 z0 z1 hN
  have HR := HRS.out _ h2
  have q0 : w2.cell? ⟨w.heap.size + 1 + 1, 0, none⟩ = some (.slice none 0 0) := cell_of_row _ _ 0 _ _ (0, 0) HR
  have q1 : w2.cell? ⟨w.heap.size + 1 + 1, 1, none⟩ = some (.slice none 0 0) := cell_of_row _ _ 1 _ _ (0, 0) HR
  have f0 : w2.frozen? ⟨w.heap.size + 1 + 1, 0, none⟩ = false := row_frozen HR 0
  have f1 : w2.frozen? ⟨w.heap.size + 1 + 1, 1, none⟩ = false := row_frozen HR 1
  have HRh : Hid (w2.heap[w.heap.size + 1 + 1]? = some (.cells #[.slice none 0 0, .slice none 0 0] 55 (0, 0))) := HR
  clear HR
  go_wp2_with fail
  exact bodyPost_ret (result_pair (b := w.heap.size + 1 + 1) rfl rfl rfl (load_two HRh.out Tryz.underlying55 info_proof)) rfl (givesP_no HN.out (Old.setCell (p := ⟨w.heap.size + 1 + 1, 1, none⟩) (Old.setCell (p := ⟨w.heap.size + 1 + 1, 0, none⟩) (HW0.out.trans h2) (by show w.heap.size <= w.heap.size + 1 + 1; omega) _) (by show w.heap.size <= w.heap.size + 1 + 1; omega) _))
 | true =>
  rw [hok] at HIm
  by_cases hnn : nw = nd
  · subst hnn
   have HN : Hid (provB sz nw nw = true) := by unfold Hid provB; rw [hok]; simp
   have k1 : decide (nw = nw) = true := by simp
   rw [k1] at HAn
   clear hok k1
   go_enter Tryz.func92, Tryz.ntmps92
   go_upto_region 1 with fail
   have HW0 : Hid (Old w (((w.alloc (.cells (gc P Q G H a n cap) 25)).alloc (.cells (cc bt nt ct bb nb cb) 50)).alloc (.cells (cc none 0 0 none 0 0) 55))) := HZ.old
   have hs0 : w.heap.size + 1 + 1 < (((w.alloc (.cells (gc P Q G H a n cap) 25)).alloc (.cells (cc bt nt ct bb nb cb) 50)).alloc (.cells (cc none 0 0 none 0 0) 55)).heap.size := by simp
   generalize hW : ((w.alloc (.cells (gc P Q G H a n cap) 25)).alloc (.cells (cc bt nt ct bb nb cb) 50)).alloc (.cells (cc none 0 0 none 0 0) 55) = W at *
   clear hW
   obtain ⟨d0, d1, d2, d3, d4, z0, z1⟩ := HT.out _ (Old.refl _)
   go_upto_region 2 with (go_at_call 133; refine (HIm.out _ HW0.out).mono ?_; rintro e w2 ⟨v, rfl, hN, h2⟩)
   simp only [if_true] at hN
   obtain ⟨bf, cf, rfl, hcf, hff⟩ := hN.facs (fun j _ => HFU.out j)
   have HNu : Hid (Nums w2 W.heap.size (.slice bf nt cf) nt F) := hN
   have HFF : Hid (FacsIn w2 bf nt F) := hff
   have HW2 : Hid (Old W w2) := h2
   clear d0 d1 d2 d3 d4 z0 z1 hN hff h2
   obtain ⟨d0, d1, d2, d3, d4, z0, z1⟩ := HT.out _ HW2.out
   go_upto_region 4 with fail
   have hd : Old W w2.drew := HW2.out.drew
   go_region_held3 (fun w' => w'.cell? ⟨w.heap.size, 0, none⟩ = some (.int .u64 P) /\ w'.cell? ⟨w.heap.size, 1, none⟩ = some (.int .u64 Q) /\ w'.cell? ⟨w.heap.size, 2, none⟩ = some (.int .u64 G) /\ w'.cell? ⟨w.heap.size, 3, none⟩ = some (.int .u64 H) /\ w'.cell? ⟨w.heap.size, 4, none⟩ = some (.slice a n cap) /\ w'.cell? ⟨w.heap.size + 1, 0, none⟩ = some (.slice bt nt ct) /\ w'.cell? ⟨w.heap.size + 1, 1, none⟩ = some (.slice bb nb cb)) (first | exact HT.out _ h5 | exact HT.out _ h4 | exact HT.out _ hd) (first
    | (go_at_call 135; refine (HCh.out _ _ _ (HW0.out.trans hd) (HFF.out.old (Old.refl _).drew)).mono ?_; rintro e w4 ⟨rfl, o4⟩; have h4 : Old W w4 := hd.trans o4)
    | (go_at_call 134; refine (HAn.out _ (HW0.out.trans h4)).mono ?_; rintro e w5 ⟨u, rfl, hNz, o5⟩; have h5 : Old W w5 := h4.trans o5))
   simp only [if_true] at hNz
   obtain ⟨bu, cu, rfl, hcu2, _⟩ := hNz.facs (fun j _ => HZU.out j)
   have HNz : Hid (Nums w5 W.heap.size (.slice bu nw cu) nw Z) := hNz.mono h4.size
   have HNv : Hid (Nums w5 W.heap.size (.slice bf nt cf) nt F) := HNu.out.old (((Old.refl w2).drew.trans o4).trans o5)
   have HW5 : Hid (Old W w5) := h5
   clear d0 d1 d2 d3 d4 z0 z1 hNz
   have HR := HRS.out _ HW5.out
   have q0 : w5.cell? ⟨w.heap.size + 1 + 1, 0, none⟩ = some (.slice none 0 0) := cell_of_row _ _ 0 _ _ (0, 0) HR
   have q1 : w5.cell? ⟨w.heap.size + 1 + 1, 1, none⟩ = some (.slice none 0 0) := cell_of_row _ _ 1 _ _ (0, 0) HR
   have f0 : w5.frozen? ⟨w.heap.size + 1 + 1, 0, none⟩ = false := row_frozen HR 0
   have f1 : w5.frozen? ⟨w.heap.size + 1 + 1, 1, none⟩ = false := row_frozen HR 1
   have HRh : Hid (w5.heap[w.heap.size + 1 + 1]? = some (.cells #[.slice none 0 0, .slice none 0 0] 55 (0, 0))) := HR
   clear HR
   go_wp2_with fail
   refine bodyPost_ret (result_pair (b := w.heap.size + 1 + 1) rfl rfl rfl (load_two HRh.out Tryz.underlying55 info_proof)) rfl ?_
   refine givesP_yes HN.out (Old.setCell (p := ⟨w.heap.size + 1 + 1, 1, none⟩) (Old.setCell (p := ⟨w.heap.size + 1 + 1, 0, none⟩) (HW0.out.trans HW5.out) (by show w.heap.size <= w.heap.size + 1 + 1; omega) _) (by show w.heap.size <= w.heap.size + 1 + 1; omega) _) ?_ ?_
   · exact (ownsRow_setCell_below (ownsRow_setCell_below HNv.out (by show w.heap.size + 1 + 1 < W.heap.size; exact hs0) _) (by show w.heap.size + 1 + 1 < W.heap.size; exact hs0) _).mono HW0.out.size
   · exact (ownsRow_setCell_below (ownsRow_setCell_below HNz.out (by show w.heap.size + 1 + 1 < W.heap.size; exact hs0) _) (by show w.heap.size + 1 + 1 < W.heap.size; exact hs0) _).mono HW0.out.size
  · have HN : Hid (provB sz nw nd = false) := by unfold Hid provB; simp [hnn]
   have k1 : ¬ (nw : Int) = (nd : Int) := by omega
   have k4 : ((nw : Int) != (nd : Int)) = true := by simp; omega
   have k5 : ((nw : Int) == (nd : Int)) = false := by simp; omega
   clear hok
   go_enter Tryz.func92, Tryz.ntmps92
   go_upto_region 1 with fail
   have HW0 : Hid (Old w (((w.alloc (.cells (gc P Q G H a n cap) 25)).alloc (.cells (cc bt nt ct bb nb cb) 50)).alloc (.cells (cc none 0 0 none 0 0) 55))) := HZ.old
   generalize hW : ((w.alloc (.cells (gc P Q G H a n cap) 25)).alloc (.cells (cc bt nt ct bb nb cb) 50)).alloc (.cells (cc none 0 0 none 0 0) 55) = W at *
   clear hW
   obtain ⟨d0, d1, d2, d3, d4, z0, z1⟩ := HT.out _ (Old.refl _)
   go_upto_region 2 with (go_at_call 133; refine (HIm.out _ HW0.out).mono ?_; rintro e w2 ⟨v, rfl, hN, h2⟩)
   clear d0 d1 d2 d3 d4 z0 z1 hN
   have HR := HRS.out _ h2
   have q0 : w2.cell? ⟨w.heap.size + 1 + 1, 0, none⟩ = some (.slice none 0 0) := cell_of_row _ _ 0 _ _ (0, 0) HR
   have q1 : w2.cell? ⟨w.heap.size + 1 + 1, 1, none⟩ = some (.slice none 0 0) := cell_of_row _ _ 1 _ _ (0, 0) HR
   have f0 : w2.frozen? ⟨w.heap.size + 1 + 1, 0, none⟩ = false := row_frozen HR 0
   have f1 : w2.frozen? ⟨w.heap.size + 1 + 1, 1, none⟩ = false := row_frozen HR 1
   have HRh : Hid (w2.heap[w.heap.size + 1 + 1]? = some (.cells #[.slice none 0 0, .slice none 0 0] 55 (0, 0))) := HR
   clear HR
   go_wp2_with fail
   exact bodyPost_ret (result_pair (b := w.heap.size + 1 + 1) rfl rfl rfl (load_two HRh.out Tryz.underlying55 info_proof)) rfl (givesP_no HN.out (Old.setCell (p := ⟨w.heap.size + 1 + 1, 1, none⟩) (Old.setCell (p := ⟨w.heap.size + 1 + 1, 0, none⟩) (HW0.out.trans h2) (by show w.heap.size <= w.heap.size + 1 + 1; omega) _) (by show w.heap.size <= w.heap.size + 1 + 1; omega) _))
end
section
open Go.RowKit
theorem u64_exF8 {Q X Y Z : Int} {n : Nat} {o : Nat -> Nat} {R S T : Nat -> Int} {Rho : Nat -> Nat -> Int} (hQ : 0 < Q) (hQ1 : Q <= 18446744073709551615) (k : Nat) : U64 (exF Q X Y Z n o R S T Rho k) := by
 have hm : ∀ a : Int, U64 (a % Q) := fun a => ⟨Int.emod_nonneg _ (by omega), by have := Int.emod_lt_of_pos a hQ; omega⟩
 have hv : ∀ i, U64 (vE Q X Y Z o R S T i) := fun i => by
  cases i with
  | zero => exact u64_add _ _ _
  | succ i => exact u64_add _ _ _
 have hw : ∀ w i, U64 (rhoE Q X o Rho w i) := fun w i => by
  cases i with
  | zero => exact (show U64 0 from ⟨by decide, by decide⟩)
  | succ i => exact u64_sub _ _ _
 unfold exF
 split
 · exact hm _
 split
 · exact hm _
 split
 · exact u64_pow _ _ _
 split
 · exact hm _
 split
 · exact u64_sub _ _ _
 split
 · exact u64_add _ _ _
 split
 · exact hm _
 split
 · exact hv _
 · exact hw _ _
theorem prodI_congr8 {P : Int} {F G : Nat -> Int} : ∀ n, (∀ i, i < n -> F i = G i) -> prodI P F n = prodI P G n
 | 0, _ => rfl
 | n + 1, h => by
  show mulI (prodI P F n) (F n) P = mulI (prodI P G n) (G n) P
  rw [prodI_congr8 n fun i hi => h i (by omega), h n (by omega)]
theorem imI_congr8 {P Q : Int} {B B' X X' : Nat -> Int} {n : Nat} (hB : ∀ k, k < n -> B k = B' k) (hX : ∀ k, k < n -> X k = X' k) : imI P Q B X n = imI P Q B' X' n := by
 unfold imI
 exact prodI_congr8 n fun k hk => by rw [hB k hk, hX k hk]
theorem uvI_congr {P Q X : Int} {n : Nat} {Ui Vi Ui' Vi' : Nat -> Nat -> Int} (hU : ∀ j, j < n -> ∀ w, w < 3 -> Ui j w = Ui' j w) (hV : ∀ j, j < n -> ∀ w, w < 3 -> Vi j w = Vi' j w) {e : Nat} (he : e < 6) : uvI P Q X n Ui Vi e = uvI P Q X n Ui' Vi' e := by
 unfold uvI
 split
 · exact prodI_congr8 n fun j hj => by rw [hU j hj _ (by omega)]
 · exact prodI_congr8 n fun j hj => by rw [hV j hj _ (by omega)]
theorem tgtT_congr {P Q G X Y Z : Int} {n : Nat} {A B Pp : Nat -> Int} {Ui Vi Ui' Vi' : Nat -> Nat -> Int} (hU : ∀ j, j < n -> ∀ w, w < 3 -> Ui j w = Ui' j w) (hV : ∀ j, j < n -> ∀ w, w < 3 -> Vi j w = Vi' j w) {j : Nat} (hj : j < 4 * n + 6) : tgtT P Q G X Y Z n A B Pp Ui Vi j = tgtT P Q G X Y Z n A B Pp Ui' Vi' j := by
 unfold tgtT tgt8
 split
 · rfl
 split
 · rfl
 split
 · rfl
 split
 · rfl
 split
 · rfl
 · exact uvI_congr hU hV (by omega)
theorem rowS8_congr {m n q : Nat} {W W' : Nat -> Int} {z : Int} (h : ∀ i, i < n -> W i = W' i) : rowS8 m n W q z = rowS8 m n W' q z := by
 funext k
 unfold rowS8
 split
 · exact h _ (by omega)
 · rfl
theorem bas8_congr {n : Nat} {Pp : Nat -> Int} {G H y : Int} {Uo Vo Uo' Vo' : Nat -> Nat -> Int} (hU : ∀ j, j < n -> ∀ w, w < 3 -> Uo j w = Uo' j w) (hV : ∀ j, j < n -> ∀ w, w < 3 -> Vo j w = Vo' j w) {j : Nat} (hj : j < 4 * n + 6) : bas8 n Pp G H y Uo Vo j = bas8 n Pp G H y Uo' Vo' j := by
 unfold bas8
 split
 · rfl
 split
 · rfl
 split
 · rfl
 split
 · rfl
 split
 · rfl
 split
 · exact rowS8_congr fun i hi => hU i hi _ (by omega)
 · exact rowS8_congr fun i hi => hV i hi _ (by omega)
theorem rhoE_congr {Q X : Int} {o : Nat -> Nat} {R R' : Nat -> Nat -> Int} {w n : Nat} (h : ∀ i, i < n -> R i w = R' i w) : ∀ i, i <= n -> rhoE Q X o R w i = rhoE Q X o R' w i
 | 0, _ => rfl
 | i + 1, hi => by
  show subI (rhoE Q X o R w i) (mulI (bE Q X o i) (R i w) Q) Q = subI (rhoE Q X o R' w i) (mulI (bE Q X o i) (R' i w) Q) Q
  rw [rhoE_congr h i (by omega), h i (by omega)]
theorem exF_congr {Q X Y Z : Int} {n : Nat} {o : Nat -> Nat} {R S T : Nat -> Int} {Rho Rho' : Nat -> Nat -> Int} (h : ∀ i, i < n -> ∀ w, w < 3 -> Rho i w = Rho' i w) {k : Nat} (hk : k < 7 * n + 3) : exF Q X Y Z n o R S T Rho k = exF Q X Y Z n o R S T Rho' k := by
 unfold exF
 split
 · rfl
 split
 · rfl
 split
 · rfl
 split
 · rfl
 split
 · rfl
 split
 · rfl
 split
 · rfl
 split
 · rfl
 · exact rhoE_congr (fun i hi => h i hi _ (by omega)) n (Nat.le_refl n)
structure Mix8 (P Q G H y : Int) (n : Nat) (C : Nat -> Nat -> Int) (O : Nat -> Int) (Rh : Nat -> Nat -> Int) (R S T : Nat -> Int) : Prop where
 gr : Righ P Q G
 hin : inI P Q H = true
 yin : inI P Q y = true
 n1 : 0 < n
 n8 : n <= 8
 ord : OrdP n O
 cin : ∀ j, j < n -> ∀ k, k < 6 -> inI P Q (C j k) = true
 r0 : ∀ i, i < n -> 0 <= R i
 s0 : ∀ i, i < n -> 0 <= S i
 t0 : ∀ i, i < n -> 0 <= T i
 w0 : ∀ i, i < n -> ∀ k, k < 3 -> 0 <= Rh i k
abbrev aF (P Q G H : Int) (O R : Nat -> Int) : Nat -> Int := fun i => comI P Q G H (O i + 1) (R i)
abbrev bF (P Q G H X : Int) (O S : Nat -> Int) : Nat -> Int := fun i => comI P Q G H (powI X (O i + 1) Q) (S i)
abbrev pF (P Q G H X Y Z : Int) (O R S T : Nat -> Int) : Nat -> Int := thiI P Q G H X Y Z (aF P Q G H O R) (bF P Q G H X O S) O T
abbrev uC (C : Nat -> Nat -> Int) : Nat -> Nat -> Int := fun j w => C j (2 * w)
abbrev vC (C : Nat -> Nat -> Int) : Nat -> Nat -> Int := fun j w => C j (2 * w + 1)
section
variable {P Q G H y : Int} {n : Nat} {C : Nat -> Nat -> Int} {O : Nat -> Int} {Rh : Nat -> Nat -> Int} {R S T : Nat -> Int}
theorem Mix8.mixd (m : Mix8 P Q G H y n C O Rh R S T) (X : Int) {Y Z : Int} (hY : 0 <= Y) (hZ : 0 <= Z) :
  Mixd P Q G H X Y Z y n (fun i => (O i).toNat) R S T (fun i w => Rh i (min w 2)) (aF P Q G H O R) (bF P Q G H X O S) (pF P Q G H X Y Z O R S T) (uB C) (vB C) (uB (mixC P Q G y C O Rh)) (vB (mixC P Q G y C O Rh)) := by
 have hc : ∀ i, i < n -> (((O i).toNat : Nat) : Int) = O i := fun i hi => m.ord.cast hi
 refine ⟨m.gr, m.hin, m.yin, m.ord.ord, m.n1, hY, hZ, m.r0, m.s0, m.t0, fun i hi w => m.w0 i hi _ (by omega), fun i hi => by rw [hc i hi], fun i hi => ?_, rfl, fun i hi => ?_, fun j hj w => m.cin j hj _ (by omega), fun j hj w => m.cin j hj _ (by omega), fun i hi w => ?_, fun i hi w => ?_⟩
 · unfold bE; rw [hc i hi]
 · show mulI (expI P Q _ (facI Q X Y Z (O (i + 1) + 1))) _ P = _
  unfold dE bE facI
  rw [hc (i + 1) hi]
 · unfold uB mixC
  rw [if_pos (by omega), show 2 * min w 2 / 2 = min w 2 by omega]
 · unfold vB mixC
  rw [if_neg (by omega), show (2 * min w 2 + 1) / 2 = min w 2 by omega]
theorem uB_is {C : Nat -> Nat -> Int} (j w : Nat) (hw : w < 3) : uB C j w = uC C j w := by unfold uB; rw [show min w 2 = w by omega]
theorem vB_is {C : Nat -> Nat -> Int} (j w : Nat) (hw : w < 3) : vB C j w = vC C j w := by unfold vB; rw [show min w 2 = w by omega]
theorem Mix8.elms (m : Mix8 P Q G H y n C O Rh R S T) (X : Int) {Y Z : Int} (hY : 0 <= Y) (hZ : 0 <= Z) :
  Elms P Q G H y n (aF P Q G H O R) (bF P Q G H X O S) (pF P Q G H X Y Z O R S T) (uC C) (vC C) (uC (mixC P Q G y C O Rh)) (vC (mixC P Q G y C O Rh)) := by
 have e := (m.mixd X hY hZ).elms m.n8
 exact ⟨e.gr, e.hin, e.yin, e.n1, e.n8, e.a, e.b, e.p, fun j hj w hw => by rw [<- uB_is j w hw]; exact e.ui j hj w hw, fun j hj w hw => by rw [<- vB_is j w hw]; exact e.vi j hj w hw, fun j hj w hw => by rw [<- uB_is j w hw]; exact e.uo j hj w hw, fun j hj w hw => by rw [<- vB_is j w hw]; exact e.vo j hj w hw⟩
theorem Mix8.outs (m : Mix8 P Q G H y n C O Rh R S T) : ∀ j, j < n -> ∀ k, k < 6 -> inI P Q (mixC P Q G y C O Rh j k) = true := fun j hj k hk => by
 have e := m.elms 0 (Int.le_refl 0) (Int.le_refl 0)
 by_cases h : k % 2 = 0
 · have := e.uo j hj (k / 2) (by omega)
  unfold uC at this
  rwa [show 2 * (k / 2) = k by omega] at this
 · have := e.vo j hj (k / 2) (by omega)
  unfold vC at this
  rwa [show 2 * (k / 2) + 1 = k by omega] at this
theorem Mix8.clm (m : Mix8 P Q G H y n C O Rh R S T) (X : Int) {Y Z : Int} (hY : 0 <= Y) (hZ : 0 <= Z) :
  clmB P Q G y n C n (mixC P Q G y C O Rh) n (aF P Q G H O R) n (bF P Q G H X O S) n (pF P Q G H X Y Z O R S T) Y Z = true := by
 have e := m.elms X hY hZ
 have h1 := m.n1
 unfold clmB
 rw [Bool.and_eq_true_iff, Bool.and_eq_true_iff]
 exact ⟨fitB_iff.2 ⟨⟨h1, m.n8⟩, rfl, rfl, rfl, rfl⟩, eltB_iff.2 ⟨m.yin, batB_iff.2 ⟨⟨h1, m.n8⟩, m.cin⟩, batB_iff.2 ⟨⟨h1, m.n8⟩, m.outs⟩, elB_iff.2 e.a, elB_iff.2 e.b, elB_iff.2 e.p⟩, decide_eq_true rfl⟩
theorem Mix8.claim (m : Mix8 P Q G H y n C O Rh R S T) (X : Int) {Y Z : Int} (hY : 0 <= Y) (hZ : 0 <= Z) :
  IsClaim P Q (4 * n + 6) (tgtT P Q G X Y Z n (aF P Q G H O R) (bF P Q G H X O S) (pF P Q G H X Y Z O R S T) (uC C) (vC C)) (4 * n + 6) (fun _ => 7 * n + 3) (bas8 n (pF P Q G H X Y Z O R S T) G H y (uC (mixC P Q G y C O Rh)) (vC (mixC P Q G y C O Rh))) (7 * n + 3) := (m.elms X hY hZ).claim X Y Z
theorem Mix8.prov (m : Mix8 P Q G H y n C O Rh R S T) (X : Int) {Y Z : Int} (hY : 0 <= Y) (hZ : 0 <= Z) {nD : Nat} (hD : nD = 7 * n + 3) :
  provB (sizeN P Q (4 * n + 6) (tgtT P Q G X Y Z n (aF P Q G H O R) (bF P Q G H X O S) (pF P Q G H X Y Z O R S T) (uC C) (vC C)) (4 * n + 6) (fun _ => 7 * n + 3) (bas8 n (pF P Q G H X Y Z O R S T) G H y (uC (mixC P Q G y C O Rh)) (vC (mixC P Q G y C O Rh)))) (7 * n + 3) nD = true := by
 rw [(m.claim X hY hZ).size, hD]
 unfold provB
 rw [Bool.and_eq_true_iff]
 exact ⟨fitsB_iff.2 ⟨by omega, rfl⟩, decide_eq_true rfl⟩
theorem Mix8.im (m : Mix8 P Q G H y n C O Rh R S T) (X : Int) {Y Z : Int} (hY : 0 <= Y) (hZ : 0 <= Z) {j : Nat} (hj : j < 4 * n + 6) :
  imI P Q (bas8 n (pF P Q G H X Y Z O R S T) G H y (uC (mixC P Q G y C O Rh)) (vC (mixC P Q G y C O Rh)) j) (exF Q X Y Z n (fun i => (O i).toNat) R S T Rh) (7 * n + 3) = tgtT P Q G X Y Z n (aF P Q G H O R) (bF P Q G H X O S) (pF P Q G H X Y Z O R S T) (uC C) (vC C) j := by
 have h := (m.mixd X hY hZ).holds hj
 rw [tgtT_congr (fun j _ w hw => uB_is j w hw) (fun j _ w hw => vB_is j w hw) hj, bas8_congr (fun j _ w hw => uB_is j w hw) (fun j _ w hw => vB_is j w hw) hj] at h
 rw [<- h]
 exact imI_congr8 (fun _ _ => rfl) fun k hk => exF_congr (fun i _ w hw => by rw [show min w 2 = w by omega]) hk
theorem Mix8.acc (m : Mix8 P Q G H y n C O Rh R S T) (X : Int) {Y Z ch : Int} (hY : 0 <= Y) (hZ : 0 <= Z) (hch : 0 <= ch) {D : Nat -> Int} (hD : ∀ k, k < 7 * n + 3 -> 0 <= D k) :
  accB P Q (4 * n + 6) (tgtT P Q G X Y Z n (aF P Q G H O R) (bF P Q G H X O S) (pF P Q G H X Y Z O R S T) (uC C) (vC C)) (4 * n + 6) (fun _ => 7 * n + 3) (bas8 n (pF P Q G H X Y Z O R S T) G H y (uC (mixC P Q G y C O Rh)) (vC (mixC P Q G y C O Rh))) (4 * n + 6) (fun j => imI P Q (bas8 n (pF P Q G H X Y Z O R S T) G H y (uC (mixC P Q G y C O Rh)) (vC (mixC P Q G y C O Rh)) j) D (7 * n + 3)) ch (7 * n + 3) (fun k => ansI Q ch (exF Q X Y Z n (fun i => (O i).toNat) R S T Rh k) (D k)) = true := by
 have hc := m.claim X hY hZ
 refine accB_iff.2 ⟨by rw [hc.size]; exact fitsB_iff.2 ⟨by omega, rfl⟩, rfl, fun j hj => ⟨m.gr.im_in _ (hc.bin j hj), ?_⟩⟩
 rw [hc.size, <- m.im X hY hZ hj]
 exact m.gr.im_ans _ (hc.bin j hj) (fun k _ => exF_nn m.gr.q1' k) hD hch
end
end
end Go.Proofs.YtlnmjbbpenhdbaaGreat
