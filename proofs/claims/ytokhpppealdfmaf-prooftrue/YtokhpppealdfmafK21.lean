/-
  The contract of linear.Accepts.
  SHA-256 reckoned on natural numbers, step by step: the same as the plain functions.
  The statement's walk (layer 6): LinearImages, by what is asked of linear.
  The statement's walk (layer 6): LinearAnswers, by what is asked of linear.
  The statement's walk (layer 6): LinearTalks, by what is asked of linear.
  A list of rows that came in, opened: what its reading says of memory.
  A group that came in, opened: what its reading says of memory.
  Pairs, threes and arrays that came in, opened: what their reading says (layer 5).
-/
import Derived.Test.YtokhpppealdfmafK20
import Derived.Test.YtokhpppealdfmafK06
import Derived.Laws.BitsAllLaws
import Derived.Test.YtokhpppealdfmafK18
import Derived.Test.YtokhpppealdfmafK07
import Derived.Deep.Slices
import Derived.Deep.Strs
import Derived.OpenShut
import Derived.Test.YtokhpppealdfmafK11
namespace Go.Proofs.Ytokhpppealdfmaf
open Go.RowKit

set_option linter.unusedSimpArgs false in
set_option maxRecDepth 100000 in
set_option maxHeartbeats 8000000 in
theorem laccepts_gen (P Q G H : Int) (a : Option Addr) (n cap : Nat) (bt : Option Addr) (nt ct : Nat) (T : Nat → Int) (bb : Option Addr) (nb cb : Nat) (BA : Nat → Option Addr) (L C : Nat → Nat) (B : Nat → Nat → Int) (bk : Option Addr) (nk ck : Nat) (K : Nat → Int) (ch : Int) (bz : Option Addr) (nz cz : Nat) (X : Nat → Int) (w : World) (h4 : Four P Q G H) (hr : Righ P Q G) (he : U64 ch) (mk : nk ≤ 9223372036854775807) (hC : ClaimIn w bt nt ct T bb nb cb BA L C B) (hK : FacsIn w bk nk K) (hX : FacsIn w bz nz X) :
    Calls Try.prog 59 #[gv P Q G H a n cap, cv bt nt ct bb nb cb, .slice bk nk ck, .int .u64 ch, .slice bz nz cz] w fun e w' => e = .returned (.bool (accB P Q nt T nb L B nk K ch nz X)) ∧ Old w w' := by
  have HZ := lain2 w (gc P Q G H a n cap) (cc bt nt ct bb nb cb) 25 34
  have HT : Hid (∀ w', Old ((w.alloc (.cells (gc P Q G H a n cap) 25)).alloc (.cells (cc bt nt ct bb nb cb) 34)) w' → w'.cell? ⟨w.heap.size, 0, none⟩ = some (.int .u64 P) ∧ w'.cell? ⟨w.heap.size, 1, none⟩ = some (.int .u64 Q) ∧ w'.cell? ⟨w.heap.size, 2, none⟩ = some (.int .u64 G) ∧ w'.cell? ⟨w.heap.size, 3, none⟩ = some (.int .u64 H) ∧ w'.cell? ⟨w.heap.size, 4, none⟩ = some (.slice a n cap) ∧ w'.cell? ⟨w.heap.size + 1, 0, none⟩ = some (.slice bt nt ct) ∧ w'.cell? ⟨w.heap.size + 1, 1, none⟩ = some (.slice bb nb cb)) := fun w' ho => by
    have h := HZ.then ho
    exact ⟨h.cell 0 0 (by simp) rfl, h.cell 0 1 (by simp) rfl, h.cell 0 2 (by simp) rfl, h.cell 0 3 (by simp) rfl, h.cell 0 4 (by simp) rfl, h.cell 1 0 (by simp) rfl, h.cell 1 1 (by simp) rfl⟩
  have HC : Hid (FacsIn w bt nt T) := hC.tar
  have HKK : Hid (FacsIn w bk nk K) := hK
  have HIm : Hid (∀ wx, Old w wx → Calls Try.prog 15 #[gv P Q G H a n cap, cv bt nt ct bb nb cb, .slice bz nz cz] wx (GivesF wx (fitsB (sizeN P Q nt T nb L B) nz) nt (fun j => imI P Q (B j) X (sizeN P Q nt T nb L B)))) := fun wx ho => limage_gen P Q G H a n cap bt nt ct T bb nb cb BA L C B bz nz cz X wx h4 hr (hC.old ho) (hX.old ho)
  have mt : nt ≤ 9223372036854775807 := Nat.le_trans hC.tc hC.tm
  obtain ⟨F, hF⟩ : ∃ F : Nat → Int, F = fun j => imI P Q (B j) X (sizeN P Q nt T nb L B) := ⟨_, rfl⟩
  obtain ⟨E, hE⟩ : ∃ E : Nat → Int, E = fun j => expI P Q (T j) ch := ⟨_, rfl⟩
  obtain ⟨M, hM⟩ : ∃ M : Nat → Int, M = fun j => mulI (K j) (E j) P := ⟨_, rfl⟩
  have HYES : Hid (fitsB (sizeN P Q nt T nb L B) nz = true → nk = nt → elB P Q nk K = true → (∀ j, j < nt → F j = M j) → accB P Q nt T nb L B nk K ch nz X = true) := fun h1 h2 h3 h5 => accB_iff.2 ⟨h1, h2, fun j hj => ⟨elB_iff.1 h3 j (h2 ▸ hj), by have := h5 j hj; rw [hF, hM, hE] at this; exact this⟩⟩
  have HNO : Hid ((fitsB (sizeN P Q nt T nb L B) nz = true → nk = nt → elB P Q nk K = true → (∀ j, j < nt → F j = M j) → False) → accB P Q nt T nb L B nk K ch nz X = false) := fun h => no_of fun hc => by
    obtain ⟨h1, h2, h3⟩ := accB_iff.1 hc
    exact h h1 h2 (elB_iff.2 fun j hj => (h3 j (h2 ▸ hj)).1) fun j hj => by rw [hF, hM, hE]; exact (h3 j hj).2
  rw [← hF] at HIm
  have HNT : Hid (fitsB (sizeN P Q nt T nb L B) nz = true → 0 < nt) := fun h => (sizeN_claim (fitsB_iff.1 h).1).t1
  have HEl : Hid (∀ wx, Old w wx → Calls Try.prog 68 #[gv P Q G H a n cap, .slice bk nk ck] wx fun e w' => e = .returned (.bool (elB P Q nk K)) ∧ Old wx w') := fun wx ho => lels_any P Q G H a n cap bk nk ck K wx h4 mk (hK.old ho)
  have HEx : Hid (∀ j wx, j < nt → Calls Try.prog 54 #[gv P Q G H a n cap, .int .u64 (T j), .int .u64 ch] wx fun e w' => e = .returned (.int .u64 (E j)) ∧ Old wx w') := fun j wx hj => (gexp_any P Q G H (T j) ch a n cap wx h4 hr (hC.tar.u64 j hj).1 (hC.tar.u64 j hj).2 he.1 he.2).mono fun e w' ⟨h, k⟩ => ⟨by rw [h, hE], k⟩
  have HPr : Hid (∀ (j : Nat) (wx : World) (t : TypeId), j < nk → Calls Try.prog 75 #[gv P Q G H a n cap, .slice (some ⟨wx.heap.size, 0, none⟩) 2 2] (wx.alloc (.cells #[.int .u64 (K j), .int .u64 (E j)] t)) fun r w' => r = .returned (.int .u64 (M j)) ∧ Old (wx.alloc (.cells #[.int .u64 (K j), .int .u64 (E j)] t)) w') :=
    fun j wx t hj => by
      have hu : U64 (E j) := by rw [hE]; exact u64_exp _ _ _ _
      have hf := facs_two wx (K j) (E j) t (hK.u64 j hj) hu
      have hm : mulI (K j) (E j) P = M j := by rw [hM]
      have hp := prod5 hr (K j) (E j)
      generalize two5 (K j) (E j) = F2 at *
      have hg := gprod_any P Q G H a n cap (some ⟨wx.heap.size, 0, none⟩) 2 2 F2 _ h4 hr (by decide) (by decide) hf
      rw [hp, hm] at hg
      exact hg
  clear hM hE hF h4 hr he hC hK hX
  generalize accB P Q nt T nb L B nk K ch nz X = R at *
  generalize fitsB (sizeN P Q nt T nb L B) nz = ok at *
  cases ok with
  | false =>
    have HN : Hid (R = false) := HNO.out fun h _ _ _ => by cases h
    go_enter Try.func59, Try.ntmps59
    go_upto_region 1 with fail
    have HW0 : Hid (Old w ((w.alloc (.cells (gc P Q G H a n cap) 25)).alloc (.cells (cc bt nt ct bb nb cb) 34))) := HZ.old
    generalize hW : (w.alloc (.cells (gc P Q G H a n cap) 25)).alloc (.cells (cc bt nt ct bb nb cb) 34) = W at *
    clear hW
    obtain ⟨d0, d1, d2, d3, d4, t0, t1⟩ := HT.out _ (Old.refl _)
    go_upto_region 2 with (go_at_call 15; refine (HIm.out _ HW0.out).mono ?_; rintro e w2 ⟨h2, ⟨_, rfl⟩ | ⟨hno, _⟩⟩; rotate_left; exact absurd hno (by decide))
    clear d0 d1 d2 d3 d4 t0 t1
    go_wp2_with fail
    go_ret
    exact ⟨ret_bool HN.out.symm, HW0.out.trans h2⟩
  | true =>
    have hpos := HNT.out (by trivial)
    by_cases hnk : nk = nt
    · cases hel : elB P Q nk K with
      | false =>
        have HN : Hid (R = false) := HNO.out fun _ _ h _ => by rw [hel] at h; cases h
        rw [hel] at HEl
        have k1 : (nk : Int) = (nt : Int) := by omega
        have k4 : ((nk : Int) != (nt : Int)) = false := by simp; omega
        clear hel HYES HNO hnk
        go_enter Try.func59, Try.ntmps59
        go_upto_region 1 with fail
        have HW0 : Hid (Old w ((w.alloc (.cells (gc P Q G H a n cap) 25)).alloc (.cells (cc bt nt ct bb nb cb) 34))) := HZ.old
        generalize hW : (w.alloc (.cells (gc P Q G H a n cap) 25)).alloc (.cells (cc bt nt ct bb nb cb) 34) = W at *
        clear hW
        obtain ⟨d0, d1, d2, d3, d4, t0, t1⟩ := HT.out _ (Old.refl _)
        go_upto_region 2 with (go_at_call 15; refine (HIm.out _ HW0.out).mono ?_; rintro e w2 ⟨h2, ⟨hno, _⟩ | ⟨_, bf, hbf, rfl, hff⟩⟩; exact absurd hno (by decide))
        clear d0 d1 d2 d3 d4 t0 t1
        obtain ⟨d0, d1, d2, d3, d4, t0, t1⟩ := HT.out _ h2
        go_wp2_with (go_at_call 68; refine (HEl.out _ (HW0.out.trans h2)).mono ?_; rintro e w3 ⟨rfl, h3⟩)
        go_ret
        exact ⟨ret_bool HN.out.symm, (HW0.out.trans h2).trans h3⟩
      | true =>
        have HYE : Hid ((∀ j, j < nt → F j = M j) → R = true) := fun h => HYES.out (by trivial) hnk hel h
        have HNE : Hid (∀ j, j < nt → ¬ F j = M j → R = false) := fun j hj hne => HNO.out fun _ _ _ h => hne (h j hj)
        rw [hel] at HEl
        clear hel HYES HNO
        subst hnk
        rcases HC.out with h0 | ⟨tb, tof, hqt, _, hrt⟩
        · omega
        rcases HKK.out with h0 | ⟨kb, ko, hqk, _, hrk⟩
        · omega
        subst hqt hqk
        have HRT : Hid (∀ j, j < nk → ∀ w', Old w w' → w'.cell? ⟨tb, tof + j, none⟩ = some (.int .u64 (T j))) := fun j hj w' ho => ho.cellOf (hrt j hj).1
        have HRK : Hid (∀ j, j < nk → ∀ w', Old w w' → w'.cell? ⟨kb, ko + j, none⟩ = some (.int .u64 (K j))) := fun j hj w' ho => ho.cellOf (hrk j hj).1
        clear hrt hrk
        go_enter Try.func59, Try.ntmps59
        go_upto_region 1 with fail
        have HW0 : Hid (Old w ((w.alloc (.cells (gc P Q G H a n cap) 25)).alloc (.cells (cc (some ⟨tb, tof, none⟩) nk ct bb nb cb) 34))) := HZ.old
        generalize hW : (w.alloc (.cells (gc P Q G H a n cap) 25)).alloc (.cells (cc (some ⟨tb, tof, none⟩) nk ct bb nb cb) 34) = W at *
        clear hW
        obtain ⟨d0, d1, d2, d3, d4, t0, t1⟩ := HT.out _ (Old.refl _)
        go_upto_region 2 with (go_at_call 15; refine (HIm.out _ HW0.out).mono ?_; rintro e w2 ⟨h2, ⟨hno, _⟩ | ⟨_, bf, hbf, rfl, hff⟩⟩; exact absurd hno (by decide))
        clear d0 d1 d2 d3 d4 t0 t1
        obtain ⟨d0, d1, d2, d3, d4, t0, t1⟩ := HT.out _ h2
        go_upto_region 4 with (go_at_call 68; refine (HEl.out _ (HW0.out.trans h2)).mono ?_; rintro e w3 ⟨rfl, h3⟩)
        have HRF : Hid (∀ j, j < nk → ∀ w', Old w2 w' → w'.cell? ⟨bf, j, none⟩ = some (.int .u64 (F j))) := fun j hj w' ho => ho.cellOf (hff.cell j hj)
        have HW2 : Hid (Old W w2) := h2
        have HW3 : Hid (Old w2 w3) := h3
        clear d0 d1 d2 d3 d4 t0 t1 hff h2 h3
        obtain ⟨d0, d1, d2, d3, d4, t0, t1⟩ := HT.out _ (HW2.out.trans HW3.out)
        go_upto_region 5 with fail
        clear d0 d1 d2 d3 d4 t0 t1
        go_loopw [40] (fun iv wx => ∃ i : Nat, iv = .int .i64 (i : Int) ∧ i ≤ nk ∧ Hid (∀ j, j < i → F j = M j) ∧ Hid (Old w2 wx)) (fun iv _ => nk - (intOf iv).toNat)
        case atStart => exact ⟨0, rfl, Nat.zero_le _, fun j hj => by omega, HW3⟩
        case round =>
          obtain ⟨i, rfl, hi1, HJ, HW⟩ := hrel
          by_cases hlt : i < nk
          · have HT2 : Hid (∀ w', Old w2 w' → w'.cell? ⟨w.heap.size, 0, none⟩ = some (.int .u64 P) ∧ w'.cell? ⟨w.heap.size, 1, none⟩ = some (.int .u64 Q) ∧ w'.cell? ⟨w.heap.size, 2, none⟩ = some (.int .u64 G) ∧ w'.cell? ⟨w.heap.size, 3, none⟩ = some (.int .u64 H) ∧ w'.cell? ⟨w.heap.size, 4, none⟩ = some (.slice a n cap) ∧ w'.cell? ⟨bf, i, none⟩ = some (.int .u64 (F i)) ∧ w'.cell? ⟨kb, ko + i, none⟩ = some (.int .u64 (K i))) := fun w' ho => by
              obtain ⟨d0, d1, d2, d3, d4, t0, t1⟩ := HT.out _ (HW2.out.trans ho)
              exact ⟨d0, d1, d2, d3, d4, HRF.out i hlt _ ho, HRK.out i hlt _ ((HW0.out.trans HW2.out).trans ho)⟩
            obtain ⟨d0, d1, d2, d3, d4, cf1, ck1⟩ := HT2.out _ HW.out
            have cx := HRT.out i hlt _ ((HW0.out.trans HW2.out).trans HW.out)
            have HM : Hid (∀ wx, Calls Try.prog 54 #[gv P Q G H a n cap, .int .u64 (T i), .int .u64 ch] wx fun r w' => r = .returned (.int .u64 (E i)) ∧ Old wx w') := fun wx => HEx.out i wx hlt
            have HV : Hid (∀ (wx : World) (t : TypeId), Calls Try.prog 75 #[gv P Q G H a n cap, .slice (some ⟨wx.heap.size, 0, none⟩) 2 2] (wx.alloc (.cells #[.int .u64 (K i), .int .u64 (E i)] t)) fun r w' => r = .returned (.int .u64 (M i)) ∧ Old (wx.alloc (.cells #[.int .u64 (K i), .int .u64 (E i)] t)) w') := fun wx t => HPr.out i wx t hlt
            by_cases heq : F i = M i
            · have HQ : Hid (F i = M i) := heq
              rw [← heq] at HV
              clear heq
              go_upto_region 7 with fail
              go_region_held3 (fun w' => w'.cell? ⟨w.heap.size, 0, none⟩ = some (.int .u64 P) ∧ w'.cell? ⟨w.heap.size, 1, none⟩ = some (.int .u64 Q) ∧ w'.cell? ⟨w.heap.size, 2, none⟩ = some (.int .u64 G) ∧ w'.cell? ⟨w.heap.size, 3, none⟩ = some (.int .u64 H) ∧ w'.cell? ⟨w.heap.size, 4, none⟩ = some (.slice a n cap) ∧ w'.cell? ⟨bf, i, none⟩ = some (.int .u64 (F i)) ∧ w'.cell? ⟨kb, ko + i, none⟩ = some (.int .u64 (K i))) (first | exact HT2.out _ h5 | exact HT2.out _ (h4.alloc _) | exact HT2.out _ h4 | exact HT2.out _ HW.out.drew) (first
                | (go_at_call 54; refine (HM.out _).mono ?_; rintro e w4 ⟨rfl, o4⟩; have h4 : Old w2 w4 := HW.out.drew.trans o4)
                | (go_at_call 75; refine (HV.out _ _).mono ?_; rintro e w5 ⟨rfl, o5⟩; have h5 : Old w2 w5 := (h4.alloc _).trans o5))
              go_wp2_with fail
              go_roundw
              case rel => exact ⟨i + 1, idx_next i, by omega, upto_succ HJ.out HQ.out, h5⟩
              case measure => simp [intOf]; omega
            · have HN : Hid (R = false) := HNE.out i hlt heq
              go_upto_region 7 with fail
              go_region_held3 (fun w' => w'.cell? ⟨w.heap.size, 0, none⟩ = some (.int .u64 P) ∧ w'.cell? ⟨w.heap.size, 1, none⟩ = some (.int .u64 Q) ∧ w'.cell? ⟨w.heap.size, 2, none⟩ = some (.int .u64 G) ∧ w'.cell? ⟨w.heap.size, 3, none⟩ = some (.int .u64 H) ∧ w'.cell? ⟨w.heap.size, 4, none⟩ = some (.slice a n cap) ∧ w'.cell? ⟨bf, i, none⟩ = some (.int .u64 (F i)) ∧ w'.cell? ⟨kb, ko + i, none⟩ = some (.int .u64 (K i))) (first | exact HT2.out _ h5 | exact HT2.out _ (h4.alloc _) | exact HT2.out _ h4 | exact HT2.out _ HW.out.drew) (first
                | (go_at_call 54; refine (HM.out _).mono ?_; rintro e w4 ⟨rfl, o4⟩; have h4 : Old w2 w4 := HW.out.drew.trans o4)
                | (go_at_call 75; refine (HV.out _ _).mono ?_; rintro e w5 ⟨rfl, o5⟩; have h5 : Old w2 w5 := (h4.alloc _).trans o5))
              go_wp2_with fail
              go_ret
              exact ⟨ret_bool HN.out.symm, (HW0.out.trans HW2.out).trans h5⟩
          · have hei : nk = i := by omega
            subst hei
            have HN : Hid (R = true) := HYE.out HJ.out
            go_wp2_with fail
            go_ret
            exact ⟨ret_bool HN.out.symm, (HW0.out.trans HW2.out).trans HW.out⟩
    · have HN : Hid (R = false) := HNO.out fun _ h _ _ => hnk h
      have k1 : ¬ (nk : Int) = (nt : Int) := by omega
      have k4 : ((nk : Int) != (nt : Int)) = true := by simp; omega
      have k5 : ((nk : Int) == (nt : Int)) = false := by simp; omega
      clear HYES HNO
      go_enter Try.func59, Try.ntmps59
      go_upto_region 1 with fail
      have HW0 : Hid (Old w ((w.alloc (.cells (gc P Q G H a n cap) 25)).alloc (.cells (cc bt nt ct bb nb cb) 34))) := HZ.old
      generalize hW : (w.alloc (.cells (gc P Q G H a n cap) 25)).alloc (.cells (cc bt nt ct bb nb cb) 34) = W at *
      clear hW
      obtain ⟨d0, d1, d2, d3, d4, t0, t1⟩ := HT.out _ (Old.refl _)
      go_upto_region 2 with (go_at_call 15; refine (HIm.out _ HW0.out).mono ?_; rintro e w2 ⟨h2, ⟨hno, _⟩ | ⟨_, bf, hbf, rfl, hff⟩⟩; exact absurd hno (by decide))
      clear d0 d1 d2 d3 d4 t0 t1
      go_wp2_with fail
      go_ret
      exact ⟨ret_bool HN.out.symm, HW0.out.trans h2⟩

theorem laccepts_any : Laccepts := fun P Q G H a n cap bt nt ct T bb nb cb BA L C B bk nk ck K ch bz nz cz X w h4 hr _ he mk _ _ _ hC hK hX =>
  laccepts_gen P Q G H a n cap bt nt ct T bb nb cb BA L C B bk nk ck K ch bz nz cz X w h4 hr he (by omega) hC hK hX

end Go.Proofs.Ytokhpppealdfmaf

namespace Go.Proofs.Ytokhpppealdfmaf

def kN : List Nat := kList.map Int.toNat
def rotN (x n : Nat) : Nat := (x >>> n) ||| (x <<< (32 - n) % 4294967296)
def low0N (x : Nat) : Nat := (rotN x 7 ^^^ rotN x 18) ^^^ (x >>> 3)
def low1N (x : Nat) : Nat := (rotN x 17 ^^^ rotN x 19) ^^^ (x >>> 10)
def big1N (x : Nat) : Nat := (rotN x 6 ^^^ rotN x 11) ^^^ rotN x 25
def big0N (x : Nat) : Nat := (rotN x 2 ^^^ rotN x 13) ^^^ rotN x 22
def pickN (e f g : Nat) : Nat := (e &&& f) ||| ((4294967295 ^^^ e) &&& g)
def mostN (a b c : Nat) : Nat := ((a &&& b) ||| (a &&& c)) ||| (b &&& c)
/-- The rounds with these numbers K: sixteen words and eight numbers go along. -/
def runN : List Nat → (w0 w1 w2 w3 w4 w5 w6 w7 w8 w9 w10 w11 w12 w13 w14 w15 : Nat) → (a b c d e f g h : Nat) → List Nat
  | [], _, _, _, _, _, _, _, _, _, _, _, _, _, _, _, _, a, b, c, d, e, f, g, h => [a, b, c, d, e, f, g, h]
  | k :: ks, w0, w1, w2, w3, w4, w5, w6, w7, w8, w9, w10, w11, w12, w13, w14, w15, a, b, c, d, e, f, g, h =>
    runN ks w1 w2 w3 w4 w5 w6 w7 w8 w9 w10 w11 w12 w13 w14 w15 ((w0 + low0N w1 + w9 + low1N w14) % 4294967296)
      ((h + big1N e + pickN e f g + k + w0 + (big0N a + mostN a b c)) % 4294967296) a b c ((d + (h + big1N e + pickN e f g + k + w0)) % 4294967296) e f g

/-- A number of 32 bits. -/
abbrev U32 (n : Nat) : Prop := n < 4294967296

theorem or_nat {a b : Nat} (ha : U32 a) (hb : U32 b) : or32 (a : Int) (b : Int) = ((a ||| b : Nat) : Int) := u32_or_nat a b ha hb
theorem xor_nat {a b : Nat} (ha : U32 a) (hb : U32 b) : xor32 (a : Int) (b : Int) = ((a ^^^ b : Nat) : Int) := u32_xor_nat a b ha hb
theorem and_nat {a b : Nat} (ha : U32 a) (hb : U32 b) : and32 (a : Int) (b : Int) = ((a &&& b : Nat) : Int) := u32_and_nat a b ha hb
theorem not_nat {a : Nat} (ha : U32 a) : not32 (a : Int) = ((4294967295 ^^^ a : Nat) : Int) := u32_xor_nat 4294967295 a (by omega) ha
theorem or_lt {a b : Nat} (ha : U32 a) (hb : U32 b) : U32 (a ||| b) := Nat.or_lt_two_pow (n := 32) ha hb
theorem xor_lt {a b : Nat} (ha : U32 a) (hb : U32 b) : U32 (a ^^^ b) := Nat.xor_lt_two_pow (n := 32) ha hb
theorem and_lt {a b : Nat} (ha : U32 a) : U32 (a &&& b) := Nat.lt_of_le_of_lt Nat.and_le_left ha
theorem shr_lt {a : Nat} (n : Nat) (ha : U32 a) : U32 (a >>> n) := by
  rw [Nat.shiftRight_eq_div_pow]
  exact Nat.lt_of_le_of_lt (Nat.div_le_self _ _) ha

theorem rotN_lt {x n : Nat} (hx : U32 x) : U32 (rotN x n) := or_lt (shr_lt n hx) (Nat.mod_lt _ (by omega))
theorem rot_nat {x : Nat} (n : Nat) (hx : U32 x) : rot (x : Int) n = (rotN x n : Int) := by
  unfold rot rotN
  have e1 : (x : Int) / 2 ^ n = ((x >>> n : Nat) : Int) := by
    rw [Nat.shiftRight_eq_div_pow, Int.natCast_ediv, Int.natCast_pow]
    rfl
  have e2 : (x : Int) * 2 ^ (32 - n) % 4294967296 = ((x <<< (32 - n) % 4294967296 : Nat) : Int) := by
    rw [Nat.shiftLeft_eq, Int.natCast_emod, Int.natCast_mul, Int.natCast_pow]
    rfl
  rw [e1, e2]
  exact or_nat (shr_lt n hx) (Nat.mod_lt _ (by omega))
theorem low0_nat {x : Nat} (hx : U32 x) : low0 (x : Int) = (low0N x : Int) ∧ U32 (low0N x) := by
  unfold low0 low0N
  have e : (x : Int) / (8 : Int) = ((x >>> 3 : Nat) : Int) := by
    rw [Nat.shiftRight_eq_div_pow]
    omega
  rw [rot_nat _ hx, rot_nat _ hx, e, xor_nat (rotN_lt hx) (rotN_lt hx), xor_nat (xor_lt (rotN_lt hx) (rotN_lt hx)) (shr_lt 3 hx)]
  exact ⟨rfl, xor_lt (xor_lt (rotN_lt hx) (rotN_lt hx)) (shr_lt 3 hx)⟩
theorem low1_nat {x : Nat} (hx : U32 x) : low1 (x : Int) = (low1N x : Int) ∧ U32 (low1N x) := by
  unfold low1 low1N
  have e : (x : Int) / (1024 : Int) = ((x >>> 10 : Nat) : Int) := by
    rw [Nat.shiftRight_eq_div_pow]
    omega
  rw [rot_nat _ hx, rot_nat _ hx, e, xor_nat (rotN_lt hx) (rotN_lt hx), xor_nat (xor_lt (rotN_lt hx) (rotN_lt hx)) (shr_lt 10 hx)]
  exact ⟨rfl, xor_lt (xor_lt (rotN_lt hx) (rotN_lt hx)) (shr_lt 10 hx)⟩
theorem big1_nat {x : Nat} (hx : U32 x) : big1 (x : Int) = (big1N x : Int) := by
  unfold big1 big1N
  rw [rot_nat _ hx, rot_nat _ hx, rot_nat _ hx, xor_nat (rotN_lt hx) (rotN_lt hx), xor_nat (xor_lt (rotN_lt hx) (rotN_lt hx)) (rotN_lt hx)]
theorem big0_nat {x : Nat} (hx : U32 x) : big0 (x : Int) = (big0N x : Int) := by
  unfold big0 big0N
  rw [rot_nat _ hx, rot_nat _ hx, rot_nat _ hx, xor_nat (rotN_lt hx) (rotN_lt hx), xor_nat (xor_lt (rotN_lt hx) (rotN_lt hx)) (rotN_lt hx)]
theorem pick_nat {e f g : Nat} (he : U32 e) (hf : U32 f) (hg : U32 g) : pick (e : Int) f g = (pickN e f g : Int) := by
  unfold pick pickN
  have hn : U32 (4294967295 ^^^ e) := xor_lt (by show 4294967295 < 4294967296; omega) he
  rw [not_nat he, and_nat he hf, and_nat hn hg, or_nat (and_lt he) (and_lt hn)]
theorem most_nat {a b c : Nat} (ha : U32 a) (hb : U32 b) (hc : U32 c) : most (a : Int) b c = (mostN a b c : Int) := by
  unfold most mostN
  rw [and_nat ha hb, and_nat ha hc, and_nat hb hc, or_nat (and_lt ha) (and_lt ha), or_nat (or_lt (and_lt ha) (and_lt ha)) (and_lt hb)]

/-! ### the words -/
/-- The word at place j, with no end. -/
def wI (B : Nat → Int) (j : Nat) : Int := sched B (j + 1) j
theorem sched_is (B : Nat → Int) {j : Nat} : ∀ T, j < T → sched B T j = wI B j
  | 0, h => by omega
  | T + 1, h => by
    by_cases he : j = T
    · subst he; rfl
    · show (if j = T then word B (sched B T) T else sched B T j) = _
      rw [if_neg he]
      exact sched_is B T (by omega)
theorem wI_low (B : Nat → Int) {t : Nat} (h : t < 16) : wI B t = four (B (4 * t)) (B (4 * t + 1)) (B (4 * t + 2)) (B (4 * t + 3)) := by
  show (if t = t then word B (sched B t) t else sched B t t) = _
  rw [if_pos rfl, word_low h]
theorem wI_high (B : Nat → Int) (t : Nat) : wI B (t + 16) = add32 (add32 (add32 (wI B t) (low0 (wI B (t + 1)))) (wI B (t + 9))) (low1 (wI B (t + 14))) := by
  show (if t + 16 = t + 16 then word B (sched B (t + 16)) (t + 16) else sched B (t + 16) (t + 16)) = _
  rw [if_pos rfl, word_high (by omega), show t + 16 - 16 = t by omega, show t + 16 - 15 = t + 1 by omega, show t + 16 - 7 = t + 9 by omega, show t + 16 - 2 = t + 14 by omega,
    sched_is B (t + 16) (by omega), sched_is B (t + 16) (by omega), sched_is B (t + 16) (by omega), sched_is B (t + 16) (by omega)]

theorem add_nat (a b : Nat) : add32 (a : Int) (b : Int) = (((a + b) % 4294967296 : Nat) : Int) := by
  unfold add32
  omega
theorem m_lt (a : Nat) : U32 (a % 4294967296) := Nat.mod_lt _ (by omega)
theorem add_five (a b c d e : Nat) : add32 (add32 (add32 (add32 (a : Int) b) c) d) e = (((a + b + c + d + e) % 4294967296 : Nat) : Int) := by
  unfold add32
  omega

/-- Where the numbers on both sides are the same, the rounds to come make the same. -/
theorem run_is (B : Nat → Int) (v : Nat → Int) (W : Nat → Nat) (hW : ∀ j, wI B j = (W j : Int) ∧ U32 (W j)) : ∀ (n t : Nat) (a b c d e f g h : Nat), t + n = 64 →
    (rounds (wI B) t v 0 = (a : Int) ∧ U32 a) → (rounds (wI B) t v 1 = (b : Int) ∧ U32 b) → (rounds (wI B) t v 2 = (c : Int) ∧ U32 c) → (rounds (wI B) t v 3 = (d : Int) ∧ U32 d) →
    (rounds (wI B) t v 4 = (e : Int) ∧ U32 e) → (rounds (wI B) t v 5 = (f : Int) ∧ U32 f) → (rounds (wI B) t v 6 = (g : Int) ∧ U32 g) → (rounds (wI B) t v 7 = (h : Int) ∧ U32 h) →
    ∀ i, i < 8 → rounds (wI B) 64 v i = (((runN (kN.drop t) (W t) (W (t + 1)) (W (t + 2)) (W (t + 3)) (W (t + 4)) (W (t + 5)) (W (t + 6)) (W (t + 7)) (W (t + 8)) (W (t + 9)) (W (t + 10)) (W (t + 11)) (W (t + 12)) (W (t + 13)) (W (t + 14)) (W (t + 15)) a b c d e f g h).getD i 0 : Nat) : Int)
  | 0, t, a, b, c, d, e, f, g, h, ht, h0, h1, h2, h3, h4, h5, h6, h7, i, hi => by
    obtain rfl : t = 64 := by omega
    have hd : kN.drop 64 = [] := by decide
    rw [hd]
    match i, hi with
    | 0, _ => exact h0.1
    | 1, _ => exact h1.1
    | 2, _ => exact h2.1
    | 3, _ => exact h3.1
    | 4, _ => exact h4.1
    | 5, _ => exact h5.1
    | 6, _ => exact h6.1
    | 7, _ => exact h7.1
  | n + 1, t, a, b, c, d, e, f, g, h, ht, h0, h1, h2, h3, h4, h5, h6, h7, i, hi => by
    have hk : kN.drop t = kN.getD t 0 :: kN.drop (t + 1) := by
      have hl : t < kN.length := by
        have : kN.length = 64 := by decide
        omega
      rw [List.drop_eq_getElem_cons hl]
      simp [List.getD, hl]
    have hkS : kS t = (kN.getD t 0 : Int) := by
      have hall : ∀ t, t < 64 → kS t = (kN.getD t 0 : Int) := by decide
      exact hall t (by omega)
    have hone : one32 (rounds (wI B) t v) (kS t) (wI B t) = (((h + big1N e + pickN e f g + kN.getD t 0 + W t) % 4294967296 : Nat) : Int) := by
      unfold one32
      rw [h4.1, h5.1, h6.1, h7.1, big1_nat h4.2, pick_nat h4.2 h5.2 h6.2, hkS, (hW t).1]
      exact add_five _ _ _ _ _
    have htwo : two32 (rounds (wI B) t v) = (((big0N a + mostN a b c) % 4294967296 : Nat) : Int) := by
      unfold two32
      rw [h0.1, h1.1, h2.1, big0_nat h0.2, most_nat h0.2 h1.2 h2.2]
      exact add_nat _ _
    have r0 : rounds (wI B) (t + 1) v 0 = (((h + big1N e + pickN e f g + kN.getD t 0 + W t + (big0N a + mostN a b c)) % 4294967296 : Nat) : Int) := by
      show add32 (one32 (rounds (wI B) t v) (kS t) (wI B t)) (two32 (rounds (wI B) t v)) = _
      rw [hone, htwo, add_nat, ← Nat.add_mod]
    have r4 : rounds (wI B) (t + 1) v 4 = (((d + (h + big1N e + pickN e f g + kN.getD t 0 + W t)) % 4294967296 : Nat) : Int) := by
      show add32 (rounds (wI B) t v 3) (one32 (rounds (wI B) t v) (kS t) (wI B t)) = _
      rw [hone, h3.1, add_nat]
      omega
    have w16 : W (t + 16) = (W t + low0N (W (t + 1)) + W (t + 9) + low1N (W (t + 14))) % 4294967296 := by
      have e1 := wI_high B t
      rw [(hW (t + 16)).1, (hW t).1, (hW (t + 1)).1, (hW (t + 9)).1, (hW (t + 14)).1, (low0_nat (hW (t + 1)).2).1, (low1_nat (hW (t + 14)).2).1] at e1
      unfold add32 at e1
      omega
    rw [hk]
    have ih := run_is B v W hW n (t + 1) _ a b c _ e f g (by omega) ⟨r0, m_lt _⟩ ⟨h0.1, h0.2⟩ ⟨h1.1, h1.2⟩ ⟨h2.1, h2.2⟩ ⟨r4, m_lt _⟩ ⟨h4.1, h4.2⟩ ⟨h5.1, h5.2⟩ ⟨h6.1, h6.2⟩ i hi
    rw [ih]
    show _ = (((runN (kN.drop (t + 1)) (W (t + 1)) (W (t + 2)) (W (t + 3)) (W (t + 4)) (W (t + 5)) (W (t + 6)) (W (t + 7)) (W (t + 8)) (W (t + 9)) (W (t + 10)) (W (t + 11)) (W (t + 12)) (W (t + 13)) (W (t + 14)) (W (t + 15)) ((W t + low0N (W (t + 1)) + W (t + 9) + low1N (W (t + 14))) % 4294967296) _ a b c _ e f g).getD i 0 : Nat) : Int)
    rw [← w16]

/-! ### the pieces -/
def fourN (a b c d : Nat) : Nat := ((a * 16777216 ||| b * 65536) ||| c * 256) ||| d
set_option maxRecDepth 10000 in
theorem four_nat {a b c d : Nat} (ha : a ≤ 255) (hb : b ≤ 255) (hc : c ≤ 255) (hd : d ≤ 255) : four (a : Int) b c d = (fourN a b c d : Int) ∧ U32 (fourN a b c d) := by
  have h1 : a * 16777216 < 4294967296 := Nat.lt_of_le_of_lt (Nat.mul_le_mul_right _ ha) (by decide)
  have h2 : b * 65536 < 4294967296 := Nat.lt_of_le_of_lt (Nat.mul_le_mul_right _ hb) (by decide)
  have h3 : c * 256 < 4294967296 := Nat.lt_of_le_of_lt (Nat.mul_le_mul_right _ hc) (by decide)
  have h4 : d < 4294967296 := by omega
  have e1 : (a : Int) * 16777216 = ((a * 16777216 : Nat) : Int) := by omega
  have e2 : (b : Int) * 65536 = ((b * 65536 : Nat) : Int) := by omega
  have e3 : (c : Int) * 256 = ((c * 256 : Nat) : Int) := by omega
  unfold four fourN
  rw [e1, e2, e3, or_nat h1 h2, or_nat (or_lt h1 h2) h3, or_nat (or_lt (or_lt h1 h2) h3) h4]
  exact ⟨rfl, or_lt (or_lt (or_lt h1 h2) h3) h4⟩
theorem wI_bd (B : Nat → Int) (j : Nat) : 0 ≤ wI B j ∧ wI B j < 4294967296 := by
  by_cases h : j < 16
  · rw [wI_low B h]
    unfold four or32
    have h1 := bits_lo_u32 .or (bits .or .u32 (bits .or .u32 (B (4 * j) * 16777216) (B (4 * j + 1) * 65536)) (B (4 * j + 2) * 256)) (B (4 * j + 3))
    have h2 := bits_hi_u32 .or (bits .or .u32 (bits .or .u32 (B (4 * j) * 16777216) (B (4 * j + 1) * 65536)) (B (4 * j + 2) * 256)) (B (4 * j + 3))
    omega
  · obtain ⟨t, rfl⟩ : ∃ t, j = t + 16 := ⟨j - 16, by omega⟩
    rw [wI_high]
    unfold add32
    omega

/-- The words of piece c at place j. -/
def wordN (bs : Nat → Nat) (c j : Nat) : Nat := fourN (bs (64 * c + 4 * j)) (bs (64 * c + 4 * j + 1)) (bs (64 * c + 4 * j + 2)) (bs (64 * c + 4 * j + 3))
def pieceN (bs : Nat → Nat) (c : Nat) : List Nat → List Nat
  | [a, b, cc, d, e, f, g, h] => List.zipWith (fun x y => (x + y) % 4294967296) [a, b, cc, d, e, f, g, h]
      (runN kN (wordN bs c 0) (wordN bs c 1) (wordN bs c 2) (wordN bs c 3) (wordN bs c 4) (wordN bs c 5) (wordN bs c 6) (wordN bs c 7) (wordN bs c 8) (wordN bs c 9) (wordN bs c 10) (wordN bs c 11) (wordN bs c 12) (wordN bs c 13) (wordN bs c 14) (wordN bs c 15) a b cc d e f g h)
  | _ => []
def stN (bs : Nat → Nat) : Nat → List Nat
  | 0 => hList.map Int.toNat
  | c + 1 => pieceN bs c (stN bs c)

theorem runN_len : ∀ (ks : List Nat) (w0 w1 w2 w3 w4 w5 w6 w7 w8 w9 w10 w11 w12 w13 w14 w15 a b c d e f g h : Nat), (runN ks w0 w1 w2 w3 w4 w5 w6 w7 w8 w9 w10 w11 w12 w13 w14 w15 a b c d e f g h).length = 8
  | [], _, _, _, _, _, _, _, _, _, _, _, _, _, _, _, _, _, _, _, _, _, _, _, _ => rfl
  | _ :: ks, _, _, _, _, _, _, _, _, _, _, _, _, _, _, _, _, _, _, _, _, _, _, _, _ => runN_len ks _ _ _ _ _ _ _ _ _ _ _ _ _ _ _ _ _ _ _ _ _ _ _ _

theorem rounds_eq {W V : Nat → Int} : ∀ (T : Nat) (v : Nat → Int) (i : Nat), (∀ j, j < T → W j = V j) → rounds W T v i = rounds V T v i
  | 0, _, _, _ => rfl
  | T + 1, v, i, h => by
    have e : rounds W T v = rounds V T v := funext fun i => rounds_eq T v i fun j hj => h j (by omega)
    show round32 (rounds W T v) (kS T) (W T) i = round32 (rounds V T v) (kS T) (V T) i
    rw [e, h T (by omega)]

theorem start_is : ∀ i, i < 8 → hS i = (((hList.map Int.toNat).getD i 0 : Nat) : Int) ∧ (hList.map Int.toNat).getD i 0 < 4294967296 := by decide

theorem state_is (bs : Nat → Nat) (hb : ∀ i, bs i ≤ 255) : ∀ c, ∃ a b cc d e f g h : Nat, stN bs c = [a, b, cc, d, e, f, g, h] ∧ ∀ i, i < 8 → state (fun i => (bs i : Int)) c i = (((stN bs c).getD i 0 : Nat) : Int) ∧ U32 ((stN bs c).getD i 0)
  | 0 => ⟨_, _, _, _, _, _, _, _, rfl, start_is⟩
  | c + 1 => by
    obtain ⟨a, b, cc, d, e, f, g, h, hs, hst⟩ := state_is bs hb c
    have s0 := hst 0 (by omega)
    have s1 := hst 1 (by omega)
    have s2 := hst 2 (by omega)
    have s3 := hst 3 (by omega)
    have s4 := hst 4 (by omega)
    have s5 := hst 5 (by omega)
    have s6 := hst 6 (by omega)
    have s7 := hst 7 (by omega)
    rw [hs] at s0 s1 s2 s3 s4 s5 s6 s7
    have hW : ∀ j, wI (fun j => ((bs (64 * c + j) : Nat) : Int)) j = ((wI (fun j => ((bs (64 * c + j) : Nat) : Int)) j).toNat : Int) ∧ U32 (wI (fun j => ((bs (64 * c + j) : Nat) : Int)) j).toNat := fun j => by
      have := wI_bd (fun j => ((bs (64 * c + j) : Nat) : Int)) j
      exact ⟨by omega, by show _ < _; omega⟩
    have hw : ∀ j, j < 16 → (wI (fun j => ((bs (64 * c + j) : Nat) : Int)) j).toNat = wordN bs c j := fun j hj => by
      rw [wI_low _ hj, (four_nat (hb _) (hb _) (hb _) (hb _)).1, Int.toNat_natCast]
      rfl
    have run := run_is (fun j => ((bs (64 * c + j) : Nat) : Int)) (state (fun i => (bs i : Int)) c) _ hW 64 0 a b cc d e f g h rfl s0 s1 s2 s3 s4 s5 s6 s7
    rw [hw 0 (by omega), hw 1 (by omega), hw 2 (by omega), hw 3 (by omega), hw 4 (by omega), hw 5 (by omega), hw 6 (by omega), hw 7 (by omega), hw 8 (by omega), hw 9 (by omega), hw 10 (by omega), hw 11 (by omega), hw 12 (by omega), hw 13 (by omega), hw 14 (by omega), hw 15 (by omega)] at run
    have e1 : stN bs (c + 1) = List.zipWith (fun x y => (x + y) % 4294967296) [a, b, cc, d, e, f, g, h]
        (runN kN (wordN bs c 0) (wordN bs c 1) (wordN bs c 2) (wordN bs c 3) (wordN bs c 4) (wordN bs c 5) (wordN bs c 6) (wordN bs c 7) (wordN bs c 8) (wordN bs c 9) (wordN bs c 10) (wordN bs c 11) (wordN bs c 12) (wordN bs c 13) (wordN bs c 14) (wordN bs c 15) a b cc d e f g h) := by
      show pieceN bs c (stN bs c) = _
      rw [hs]
      rfl
    obtain ⟨r, hr⟩ : ∃ r, r = runN kN (wordN bs c 0) (wordN bs c 1) (wordN bs c 2) (wordN bs c 3) (wordN bs c 4) (wordN bs c 5) (wordN bs c 6) (wordN bs c 7) (wordN bs c 8) (wordN bs c 9) (wordN bs c 10) (wordN bs c 11) (wordN bs c 12) (wordN bs c 13) (wordN bs c 14) (wordN bs c 15) a b cc d e f g h := ⟨_, rfl⟩
    have hl : r.length = 8 := by rw [hr]; exact runN_len _ _ _ _ _ _ _ _ _ _ _ _ _ _ _ _ _ _ _ _ _ _ _ _ _
    rw [← hr] at e1
    have hrun : ∀ i, i < 8 → rounds (sched (fun j => ((bs (64 * c + j) : Nat) : Int)) 64) 64 (state (fun i => (bs i : Int)) c) i = ((r.getD i 0 : Nat) : Int) := fun i hi => by
      rw [rounds_eq 64 _ i (fun j hj => sched_is _ 64 hj), run i hi, hr]
      rfl
    match r, hl with
    | [r0, r1, r2, r3, r4, r5, r6, r7], _ =>
      refine ⟨_, _, _, _, _, _, _, _, e1, fun i hi => ?_⟩
      rw [e1]
      have key : ∀ i, i < 8 → state (fun i => (bs i : Int)) (c + 1) i = add32 (state (fun i => (bs i : Int)) c i) ((([r0, r1, r2, r3, r4, r5, r6, r7] : List Nat).getD i 0 : Nat) : Int) := fun i hi => by
        rw [← hrun i hi]
        rfl
      rw [key i hi]
      match i, hi with
      | 0, _ => exact ⟨by rw [s0.1]; exact add_nat _ _, m_lt _⟩
      | 1, _ => exact ⟨by rw [s1.1]; exact add_nat _ _, m_lt _⟩
      | 2, _ => exact ⟨by rw [s2.1]; exact add_nat _ _, m_lt _⟩
      | 3, _ => exact ⟨by rw [s3.1]; exact add_nat _ _, m_lt _⟩
      | 4, _ => exact ⟨by rw [s4.1]; exact add_nat _ _, m_lt _⟩
      | 5, _ => exact ⟨by rw [s5.1]; exact add_nat _ _, m_lt _⟩
      | 6, _ => exact ⟨by rw [s6.1]; exact add_nat _ _, m_lt _⟩
      | 7, _ => exact ⟨by rw [s7.1]; exact add_nat _ _, m_lt _⟩

/-- SHA-256 by natural numbers. -/
def shaN (xs : List Int) : List Int := outL (fun i => (((stN (fun i => ((padL xs).getD i 0).toNat) (pieces xs.length)).getD i 0 : Nat) : Int)) 8
theorem outL_eq {h h' : Nat → Int} : ∀ n, (∀ i, i < n → h i = h' i) → outL h n = outL h' n
  | 0, _ => rfl
  | n + 1, e => by
    show outL h n ++ bytesL (h n) 4 = outL h' n ++ bytesL (h' n) 4
    rw [outL_eq n fun i hi => e i (by omega), e n (by omega)]
theorem sum_is (xs : List Int) (h : Bts xs) : sumL xs = shaN xs := by
  have hb := fun i => getD_bd (pad_bd h) i
  have e : (fun i => (padL xs).getD i 0) = fun i => ((((padL xs).getD i 0).toNat : Nat) : Int) := funext fun i => by
    have := hb i
    omega
  unfold sumL shaN
  rw [e]
  refine outL_eq 8 fun i hi => ?_
  obtain ⟨_, _, _, _, _, _, _, _, _, hst⟩ := state_is (fun i => ((padL xs).getD i 0).toNat) (fun i => by have := hb i; omega) (pieces xs.length)
  exact (hst i hi).1

theorem sum_abc : sumL [97, 98, 99] = [186, 120, 22, 191, 143, 1, 207, 234, 65, 65, 64, 222, 93, 174, 34, 35, 176, 3, 97, 163, 150, 23, 122, 156, 180, 16, 255, 97, 242, 0, 21, 173] := by
  rw [sum_is _ (by unfold Bts; decide)]
  decide +kernel

end Go.Proofs.Ytokhpppealdfmaf

namespace Go.Proofs.Ytokhpppealdfmaf
open Go.RowKit

theorem same_self (k : Nat) (F : Nat → Int) : sameB k F k F = true := sameB_iff.2 ⟨rfl, fun _ _ => rfl⟩

end Go.Proofs.Ytokhpppealdfmaf

namespace Go.Proofs.Ytokhpppealdfmaf
open Go.RowKit

end Go.Proofs.Ytokhpppealdfmaf

namespace Go.Proofs.Ytokhpppealdfmaf
open Go.RowKit

def two6 (m k : Nat) : Nat → Nat | 0 => m | _ => k
def two6a (b c : Option Addr) : Nat → Option Addr | 0 => b | _ => c
theorem lens_two (w : World) (b : Option Addr) (n c : Nat) (b' : Option Addr) (n' c' : Nat) (t : TypeId) : LensIn (w.alloc (.cells #[.slice b n c, .slice b' n' c'] t)) (some ⟨w.heap.size, 0, none⟩) 2 (two6a b b') (two6 n n') (two6 c c') := by
  refine Or.inr ⟨_, _, rfl, by simp, fun j hj => ?_⟩
  match j, hj with
  | 0, _ => exact (World.cell?_alloc_mark w _ t (0, 0) 0).trans rfl
  | 1, _ => exact (World.cell?_alloc_mark w _ t (0, 0) 1).trans rfl

end Go.Proofs.Ytokhpppealdfmaf

namespace Go.Proofs.Ytokhpppealdfmaf
open Go.RowKit Go.ChangeShapes Go.WideShapes Go.Deep

section
variable {H : Type} {enc : TypeId × Value → H} {P : Program} {w : World}

theorem cell_lt {b off : Nat} {v : Value} (h : w.cell? ⟨b, off, none⟩ = some v) : b < w.heap.size := by
  refine Classical.byContradiction fun hc => ?_
  have : w.heap[b]? = none := by simp; omega
  simp [World.cell?, this] at h

theorem open_facs {t e : TypeId} {fuel : Nat} {v : Value} {x : DataW H × List MemPlace} (ht : P.underlying t = some (.slice e)) (he : P.underlying e = some (.int .u64)) (hc : P.cellsOf e = 1)
    (h : DataW.trod enc P w 0 (fun _ => true) true fuel t [v] = some x) : ∃ (a : Option Addr) (L C : Nat) (F : Nat → Int), v = .slice a L C ∧ L ≤ C ∧ C ≤ maxLen ∧ FacsIn w a L F := by
  rcases open_ints ht he hc h with ⟨hcs, _⟩ | ⟨a, len, cap, zs, hcs, _, hl, hm, hz, _, hcell, hwz⟩
  · exact ⟨none, 0, 0, fun _ => 0, by simpa using hcs, Nat.le_refl _, Nat.zero_le _, Or.inl rfl⟩
  · simp only [if_true] at hz
    refine ⟨some a, len, cap, fun j => zs.getD j 0, by simpa using hcs, hl, hm, ?_⟩
    by_cases h0 : len = 0
    · exact Or.inl h0
    · obtain ⟨b, off, rfl, hc'⟩ := ints_at hcell (by omega)
      refine Or.inr ⟨b, off, rfl, cell_lt (hc' 0 (by omega)), fun j hj => ⟨hc' j (by omega), ?_⟩⟩
      have hj' : j < zs.length := by omega
      have e : zs.getD j 0 = zs[j] := by simp [List.getD, hj']
      show 0 ≤ zs.getD j 0 ∧ zs.getD j 0 ≤ 18446744073709551615
      rw [e]
      exact bounds_u64 (hwz _ (List.getElem_mem hj'))

theorem open_rows {t e u s : TypeId} {f0 f1 f2 : Field} (ht : P.underlying t = some (.slice e)) (he : P.underlying e = some (.struct #[f0, f1, f2])) (hu : P.underlying u = some (.int .u64)) (hs : P.underlying s = some (.slice u))
    (o0 : f0.offset = 0) (o1 : f1.offset = 1) (o2 : f2.offset = 2) (t0 : f0.type = u) (t1 : f1.type = u) (t2 : f2.type = s) (ce : P.cellsOf e = 3) (cu : P.cellsOf u = 1) (cs : P.cellsOf s = 1)
    {a : Option Addr} {n cap : Nat} {d : DataW H} {p : List MemPlace} (h : DataW.Trod enc P w 0 (fun _ => true) true t (.slice a n cap) d p) :
    n ≤ cap ∧ ∃ (N A : Nat → Int) (FA : Nat → Option Addr) (L C : Nat → Nat) (F : Nat → Nat → Int), RowsIn w a n N A FA L C F := by
  obtain ⟨fuel, hf⟩ := h
  rcases open_slice ht hf with ⟨hcs, _⟩ | ⟨a', len, cap', m, k, D, Pl, hcs, _, hl, hm, hmm, _, hx⟩
  · simp [Value.cells] at hcs
    obtain ⟨rfl, rfl, rfl⟩ := hcs
    exact ⟨Nat.le_refl _, fun _ => 0, fun _ => 0, fun _ => none, fun _ => 0, fun _ => 0, fun _ _ => 0, Or.inl rfl⟩
  simp [Value.cells] at hcs
  obtain ⟨rfl, rfl, rfl⟩ := hcs
  simp only [if_true] at hmm
  subst hmm
  refine ⟨hl, ?_⟩
  by_cases h0 : n = 0
  · exact ⟨fun _ => 0, fun _ => 0, fun _ => none, fun _ => 0, fun _ => 0, fun _ _ => 0, Or.inl h0⟩
  rw [ce] at hx
  -- the address is a plain one
  obtain ⟨b, off, spot⟩ := a'
  have hspot : spot = none := by
    obtain ⟨cs0, hc0, _⟩ := hx 0 (by omega)
    obtain ⟨_, hlen, hcell⟩ := World.cells?_some hc0
    have g := hcell 0 (by omega)
    have : ∃ v, cs0[0]? = some v := ⟨cs0[0], by simp⟩
    obtain ⟨v, hv⟩ := this
    rw [hv] at g
    simpa [Addr.add] using World.cell?_spot g
  subst hspot
  have each : ∀ i, i < m → ∃ y : Int × Int × Option Addr × Nat × Nat × (Nat → Int), RowAt w b (off + i * 3) y.1 y.2.1 y.2.2.1 y.2.2.2.1 y.2.2.2.2.1 y.2.2.2.2.2 := by
    intro i hi
    obtain ⟨cs', h1, h2⟩ := hx i hi
    obtain ⟨_, hlen, hcell⟩ := World.cells?_some h1
    obtain ⟨y0, y1, y2, k', _, _, g0, g1, g2⟩ := trod_struct3 he h2
    match cs', hlen with
    | [v0, v1, v2], _ =>
      simp [o0, o1, o2, t0, t1, t2, cu, cs] at g0 g1 g2
      obtain ⟨x0, e0, _, w0⟩ := DataW.trod_int hu g0
      obtain ⟨x1, e1, _, w1⟩ := DataW.trod_int hu g1
      obtain ⟨fa, L, C, F, e2, hL, hC, hF⟩ := open_facs hs hu cu g2
      simp at e0 e1
      subst e0 e1 e2
      have c0 := hcell 0 (by omega)
      have c1 := hcell 1 (by omega)
      have c2 := hcell 2 (by omega)
      simp only [add_plain] at c0 c1 c2
      have b0 := bounds_u64 w0
      have b1 := bounds_u64 w1
      exact ⟨(x0, x1, fa, L, C, F), by simpa using c0, by simpa using c1, by simpa using c2, b0.1, b0.2, b1.1, b1.2, hL, hC, hF⟩
  obtain ⟨y, hy⟩ := choose_lt each
  refine ⟨fun i => (y i).1, fun i => (y i).2.1, fun i => (y i).2.2.1, fun i => (y i).2.2.2.1, fun i => (y i).2.2.2.2.1, fun i => (y i).2.2.2.2.2, Or.inr ⟨b, off, rfl, cell_lt (hy 0 (by omega)).c0, fun i hi => hy i (by omega)⟩⟩

end
end Go.Proofs.Ytokhpppealdfmaf

namespace Go.Proofs.Ytokhpppealdfmaf
open Go.RowKit Go.ChangeShapes Go.WideShapes Go.Deep

section
variable {H : Type} {enc : TypeId × Value → H} {P : Program} {w : World}

theorem trod_struct5 {t : TypeId} {f0 f1 f2 f3 f4 : Field} {fuel : Nat} {cs : List Value} {x : DataW H × List MemPlace} (ht : P.underlying t = some (.struct #[f0, f1, f2, f3, f4])) (h : DataW.trod enc P w 0 (fun _ => true) true fuel t cs = some x) :
    ∃ y0 y1 y2 y3 y4 n, cs.length = P.cellsOf t ∧ DataW.trod enc P w 0 (fun _ => true) true n f0.type ((cs.drop f0.offset).take (P.cellsOf f0.type)) = some y0 ∧
      DataW.trod enc P w 0 (fun _ => true) true n f1.type ((cs.drop f1.offset).take (P.cellsOf f1.type)) = some y1 ∧ DataW.trod enc P w 0 (fun _ => true) true n f2.type ((cs.drop f2.offset).take (P.cellsOf f2.type)) = some y2 ∧
      DataW.trod enc P w 0 (fun _ => true) true n f3.type ((cs.drop f3.offset).take (P.cellsOf f3.type)) = some y3 ∧ DataW.trod enc P w 0 (fun _ => true) true n f4.type ((cs.drop f4.offset).take (P.cellsOf f4.type)) = some y4 := by
  obtain ⟨xs, n, _, rfl, hl, hlen, hf⟩ := DataW.trod_struct ht h
  match xs, hlen with
  | [y0, y1, y2, y3, y4], _ => exact ⟨y0, y1, y2, y3, y4, n, hl, by simpa using hf 0 f0 rfl, by simpa using hf 1 f1 rfl, by simpa using hf 2 f2 rfl, by simpa using hf 3 f3 rfl, by simpa using hf 4 f4 rfl⟩

theorem open_params {t u r e s : TypeId} {f0 f1 f2 f3 f4 g0 g1 g2 : Field} (ht : P.underlying t = some (.struct #[f0, f1, f2, f3, f4])) (hu : P.underlying u = some (.int .u64)) (hr : P.underlying r = some (.slice e))
    (he : P.underlying e = some (.struct #[g0, g1, g2])) (hs : P.underlying s = some (.slice u)) (o0 : f0.offset = 0) (o1 : f1.offset = 1) (o2 : f2.offset = 2) (o3 : f3.offset = 3) (o4 : f4.offset = 4)
    (t0 : f0.type = u) (t1 : f1.type = u) (t2 : f2.type = u) (t3 : f3.type = u) (t4 : f4.type = r) (p0 : g0.offset = 0) (p1 : g1.offset = 1) (p2 : g2.offset = 2) (s0 : g0.type = u) (s1 : g1.type = u) (s2 : g2.type = s)
    (ct : P.cellsOf t = 5) (ce : P.cellsOf e = 3) (cu : P.cellsOf u = 1) (cr : P.cellsOf r = 1) (cs : P.cellsOf s = 1) {v : Value} {d : DataW H} {p : List MemPlace} (h : DataW.Trod enc P w 0 (fun _ => true) true t v d p) :
    ∃ (p q g k : Int) (a : Option Addr) (n cap : Nat), v = gv p q g k a n cap ∧ Four p q g k ∧ n ≤ cap ∧ ∃ (N A : Nat → Int) (FA : Nat → Option Addr) (L C : Nat → Nat) (F : Nat → Nat → Int), RowsIn w a n N A FA L C F := by
  obtain ⟨fuel, hf⟩ := h
  obtain ⟨y0, y1, y2, y3, y4, m, hl, k0, k1, k2, k3, k4⟩ := trod_struct5 ht hf
  rw [ct] at hl
  cases v with
  | agg c =>
    obtain ⟨l⟩ := c
    match l, hl with
    | [v0, v1, v2, v3, v4], _ =>
      simp [Value.cells, o0, o1, o2, o3, o4, t0, t1, t2, t3, t4, cu, cr] at k0 k1 k2 k3 k4
      obtain ⟨x0, e0, _, w0⟩ := DataW.trod_int hu k0
      obtain ⟨x1, e1, _, w1⟩ := DataW.trod_int hu k1
      obtain ⟨x2, e2, _, w2⟩ := DataW.trod_int hu k2
      obtain ⟨x3, e3, _, w3⟩ := DataW.trod_int hu k3
      simp at e0 e1 e2 e3
      subst e0 e1 e2 e3
      have hv4 : ∃ a n cap, v4 = .slice a n cap := by
        rcases open_slice hr k4 with ⟨hcs, _⟩ | ⟨a', len, cap', _, _, _, _, hcs, _⟩
        · exact ⟨none, 0, 0, by simpa using hcs⟩
        · exact ⟨some a', len, cap', by simpa using hcs⟩
      obtain ⟨a, n, cap, rfl⟩ := hv4
      have ko : DataW.Trod enc P w 0 (fun _ => true) true r (.slice a n cap) y4.1 y4.2 := ⟨m, by simpa [Value.cells] using k4⟩
      obtain ⟨hcap, N, A, FA, L, C, F, hin⟩ := open_rows hr he hu hs p0 p1 p2 s0 s1 s2 ce cu cs ko
      have b0 := bounds_u64 w0
      have b1 := bounds_u64 w1
      have b2 := bounds_u64 w2
      have b3 := bounds_u64 w3
      exact ⟨x0, x1, x2, x3, a, n, cap, rfl, ⟨b0.1, b0.2, b1.1, b1.2, b2.1, b2.2, b3.1, b3.2⟩, hcap, N, A, FA, L, C, F, hin⟩
  | _ => simp [Value.cells] at hl

end
end Go.Proofs.Ytokhpppealdfmaf

namespace Go.Proofs.Ytokhpppealdfmaf
open Go.RowKit Go.ChangeShapes Go.WideShapes Go.Deep

section
variable {H : Type} {enc : TypeId × Value → H} {P : Program} {w : World}

/-- An array of k elements of one cell each. -/
theorem open_cells {t e : TypeId} {k : Nat} (ht : P.underlying t = some (.array k e)) (hc : P.cellsOf e = 1) (hk : P.cellsOf t = k) (hk2 : 2 ≤ k) {v : Value} {d : DataW H} {p : List MemPlace} (h : DataW.Trod enc P w 0 (fun _ => true) true t v d p) :
    ∃ (l : List Value) (m : Nat), v = .agg l.toArray ∧ l.length = k ∧ ∀ i (hi : i < l.length), ∃ y, DataW.trod enc P w 0 (fun _ => true) true m e [l[i]] = some y := by
  obtain ⟨fuel, hf⟩ := h
  obtain ⟨xs, m, _, _, hl, hlx, hi⟩ := DataW.trod_array ht hf
  rw [hk] at hl
  rw [hc] at hi
  cases v with
  | agg cs =>
    obtain ⟨l⟩ := cs
    refine ⟨l, m, rfl, by simpa [Value.cells] using hl, fun i hi' => ?_⟩
    have hlen : l.length = k := by simpa [Value.cells] using hl
    have g := hi i (by omega)
    rw [List.getElem?_eq_getElem (show i < xs.length by omega)] at g
    refine ⟨_, Eq.trans ?_ g⟩
    congr 1
    simp only [Value.cells, Nat.mul_one]
    rw [List.drop_eq_getElem_cons hi', List.take_succ_cons, List.take_zero]
  | _ => simp [Value.cells] at hl; omega

theorem open_u64 {e : TypeId} (he : P.underlying e = some (.int .u64)) {m : Nat} {c : Value} {y : DataW H × List MemPlace} (h : DataW.trod enc P w 0 (fun _ => true) true m e [c] = some y) : ∃ x : Int, c = .int .u64 x ∧ U64 x := by
  obtain ⟨x, hx, _, hw⟩ := DataW.trod_int he h
  simp at hx
  exact ⟨x, hx, (bounds_u64 hw).1, (bounds_u64 hw).2⟩

theorem open_u64s3 {t e : TypeId} (ht : P.underlying t = some (.array 3 e)) (he : P.underlying e = some (.int .u64)) (hc : P.cellsOf e = 1) (hk : P.cellsOf t = 3) {v : Value} {d : DataW H} {p : List MemPlace} (h : DataW.Trod enc P w 0 (fun _ => true) true t v d p) :
    ∃ x y z : Int, v = .agg #[.int .u64 x, .int .u64 y, .int .u64 z] ∧ U64 x ∧ U64 y ∧ U64 z := by
  obtain ⟨l, m, rfl, hl, hi⟩ := open_cells ht hc hk (by omega) h
  match l, hl with
  | [a, b, c], _ =>
    obtain ⟨_, h0⟩ := hi 0 (by simp)
    obtain ⟨_, h1⟩ := hi 1 (by simp)
    obtain ⟨_, h2⟩ := hi 2 (by simp)
    obtain ⟨x, rfl, bx⟩ := open_u64 he h0
    obtain ⟨y, rfl, by_⟩ := open_u64 he h1
    obtain ⟨z, rfl, bz⟩ := open_u64 he h2
    exact ⟨x, y, z, rfl, bx, by_, bz⟩
theorem open_u64s4 {t e : TypeId} (ht : P.underlying t = some (.array 4 e)) (he : P.underlying e = some (.int .u64)) (hc : P.cellsOf e = 1) (hk : P.cellsOf t = 4) {v : Value} {d : DataW H} {p : List MemPlace} (h : DataW.Trod enc P w 0 (fun _ => true) true t v d p) :
    ∃ x y z u : Int, v = .agg #[.int .u64 x, .int .u64 y, .int .u64 z, .int .u64 u] ∧ U64 x ∧ U64 y ∧ U64 z ∧ U64 u := by
  obtain ⟨l, m, rfl, hl, hi⟩ := open_cells ht hc hk (by omega) h
  match l, hl with
  | [a, b, c, d'], _ =>
    obtain ⟨_, h0⟩ := hi 0 (by simp)
    obtain ⟨_, h1⟩ := hi 1 (by simp)
    obtain ⟨_, h2⟩ := hi 2 (by simp)
    obtain ⟨_, h3⟩ := hi 3 (by simp)
    obtain ⟨x, rfl, bx⟩ := open_u64 he h0
    obtain ⟨y, rfl, by_⟩ := open_u64 he h1
    obtain ⟨z, rfl, bz⟩ := open_u64 he h2
    obtain ⟨u, rfl, bu⟩ := open_u64 he h3
    exact ⟨x, y, z, u, rfl, bx, by_, bz, bu⟩
/-- Two lists of numbers. -/
theorem open_lists2 {t e u : TypeId} (ht : P.underlying t = some (.array 2 e)) (he : P.underlying e = some (.slice u)) (hu : P.underlying u = some (.int .u64)) (hc : P.cellsOf e = 1) (hcu : P.cellsOf u = 1) (hk : P.cellsOf t = 2) {v : Value} {d : DataW H} {p : List MemPlace} (h : DataW.Trod enc P w 0 (fun _ => true) true t v d p) :
    ∃ (b1 : Option Addr) (l1 c1 : Nat) (X : Nat → Int) (b2 : Option Addr) (l2 c2 : Nat) (D : Nat → Int), v = .agg #[.slice b1 l1 c1, .slice b2 l2 c2] ∧ l1 ≤ c1 ∧ FacsIn w b1 l1 X ∧ l2 ≤ c2 ∧ FacsIn w b2 l2 D := by
  obtain ⟨l, m, rfl, hl, hi⟩ := open_cells ht hc hk (by omega) h
  match l, hl with
  | [a, b], _ =>
    obtain ⟨_, h0⟩ := hi 0 (by simp)
    obtain ⟨_, h1⟩ := hi 1 (by simp)
    obtain ⟨b1, l1, c1, X, e1, hc1, _, hX⟩ := open_facs he hu hcu h0
    obtain ⟨b2, l2, c2, D, e2, hc2, _, hD⟩ := open_facs he hu hcu h1
    simp at e1 e2
    subst e1 e2
    exact ⟨b1, l1, c1, X, b2, l2, c2, D, rfl, hc1, hX, hc2, hD⟩
/-- A list of numbers. -/
theorem open_list {t u : TypeId} (ht : P.underlying t = some (.slice u)) (hu : P.underlying u = some (.int .u64)) (hcu : P.cellsOf u = 1) {b : Option Addr} {len c : Nat} {d : DataW H} {p : List MemPlace} (h : DataW.Trod enc P w 0 (fun _ => true) true t (.slice b len c) d p) :
    ∃ S : Nat → Int, len ≤ c ∧ len ≤ 9223372036854775807 ∧ FacsIn w b len S := by
  obtain ⟨m, hm⟩ := h
  obtain ⟨_, _, _, S, e, hl, hmx, hS⟩ := open_facs ht hu hcu hm
  cases e
  refine ⟨S, hl, ?_, hS⟩
  unfold maxLen at hmx
  omega

/-- A pair's cells. -/
theorem pair_cells {t u : TypeId} {f0 f1 : Field} (ht : P.underlying t = some (.struct #[f0, f1])) (hu : P.underlying u = some (.int .u64)) (o0 : f0.offset = 0) (o1 : f1.offset = 1) (t0 : f0.type = u) (t1 : f1.type = u) (ct : P.cellsOf t = 2) (cu : P.cellsOf u = 1) {fuel : Nat} {cs : List Value} {x : DataW H × List MemPlace} (h : DataW.trod enc P w 0 (fun _ => true) true fuel t cs = some x) :
    ∃ x y : Int, cs = [.int .u64 x, .int .u64 y] ∧ U64 x ∧ U64 y := by
  obtain ⟨xs, n, _, rfl, hl, hlen, hf⟩ := DataW.trod_struct ht h
  rw [ct] at hl
  have g0 := hf 0 f0 rfl
  have g1 := hf 1 f1 rfl
  have hlen : xs.length = 2 := hlen
  rw [List.getElem?_eq_getElem (by omega)] at g0 g1
  match cs, hl with
  | [a, b], _ =>
    simp [o0, o1, t0, t1, cu] at g0 g1
    obtain ⟨x, rfl, bx⟩ := open_u64 hu g0
    obtain ⟨y, rfl, by_⟩ := open_u64 hu g1
    exact ⟨x, y, rfl, bx, by_⟩
theorem open_pair {t u : TypeId} {f0 f1 : Field} (ht : P.underlying t = some (.struct #[f0, f1])) (hu : P.underlying u = some (.int .u64)) (o0 : f0.offset = 0) (o1 : f1.offset = 1) (t0 : f0.type = u) (t1 : f1.type = u) (ct : P.cellsOf t = 2) (cu : P.cellsOf u = 1) {v : Value} {d : DataW H} {p : List MemPlace} (h : DataW.Trod enc P w 0 (fun _ => true) true t v d p) :
    ∃ x y : Int, v = pv x y ∧ U64 x ∧ U64 y := by
  obtain ⟨m, hm⟩ := h
  obtain ⟨x, y, e, bx, by_⟩ := pair_cells ht hu o0 o1 t0 t1 ct cu hm
  cases v with
  | agg c =>
    obtain ⟨l⟩ := c
    simp [Value.cells] at e
    exact ⟨x, y, by rw [e], bx, by_⟩
  | _ => simp [Value.cells] at e
theorem open_three {t u : TypeId} {f0 f1 f2 : Field} (ht : P.underlying t = some (.struct #[f0, f1, f2])) (hu : P.underlying u = some (.int .u64)) (o0 : f0.offset = 0) (o1 : f1.offset = 1) (o2 : f2.offset = 2) (t0 : f0.type = u) (t1 : f1.type = u) (t2 : f2.type = u) (ct : P.cellsOf t = 3) (cu : P.cellsOf u = 1) {v : Value} {d : DataW H} {p : List MemPlace} (h : DataW.Trod enc P w 0 (fun _ => true) true t v d p) :
    ∃ x y z : Int, v = tv x y z ∧ U64 x ∧ U64 y ∧ U64 z := by
  obtain ⟨m, hm⟩ := h
  obtain ⟨xs, n, _, _, hl, hlen, hf⟩ := DataW.trod_struct ht hm
  rw [ct] at hl
  have g0 := hf 0 f0 rfl
  have g1 := hf 1 f1 rfl
  have g2 := hf 2 f2 rfl
  have hlen : xs.length = 3 := hlen
  rw [List.getElem?_eq_getElem (by omega)] at g0 g1 g2
  cases v with
  | agg c =>
    obtain ⟨l⟩ := c
    match l, hl with
    | [a, b, c], _ =>
      simp [Value.cells, o0, o1, o2, t0, t1, t2, cu] at g0 g1 g2
      obtain ⟨x, rfl, bx⟩ := open_u64 hu g0
      obtain ⟨y, rfl, by_⟩ := open_u64 hu g1
      obtain ⟨z, rfl, bz⟩ := open_u64 hu g2
      exact ⟨x, y, z, rfl, bx, by_, bz⟩
  | _ => simp [Value.cells] at hl
/-- Two pairs. -/
theorem open_pairs2 {t e u : TypeId} {f0 f1 : Field} (ht : P.underlying t = some (.array 2 e)) (he : P.underlying e = some (.struct #[f0, f1])) (hu : P.underlying u = some (.int .u64)) (o0 : f0.offset = 0) (o1 : f1.offset = 1) (t0 : f0.type = u) (t1 : f1.type = u) (ct : P.cellsOf t = 4) (ce : P.cellsOf e = 2) (cu : P.cellsOf u = 1) {v : Value} {d : DataW H} {p : List MemPlace} (h : DataW.Trod enc P w 0 (fun _ => true) true t v d p) :
    ∃ x y z k : Int, v = .agg #[.int .u64 x, .int .u64 y, .int .u64 z, .int .u64 k] ∧ U64 x ∧ U64 y ∧ U64 z ∧ U64 k := by
  obtain ⟨m, hm⟩ := h
  obtain ⟨xs, n, _, _, hl, hlx, hi⟩ := DataW.trod_array ht hm
  rw [ct] at hl
  have g0 := hi 0 (by omega)
  have g1 := hi 1 (by omega)
  rw [ce, List.getElem?_eq_getElem (by omega)] at g0 g1
  cases v with
  | agg c =>
    obtain ⟨l⟩ := c
    match l, hl with
    | [a, b, c, d'], _ =>
      simp [Value.cells] at g0 g1
      obtain ⟨x, y, e0, bx, by_⟩ := pair_cells he hu o0 o1 t0 t1 ce cu g0
      obtain ⟨z, k, e1, bz, bk⟩ := pair_cells he hu o0 o1 t0 t1 ce cu g1
      simp at e0 e1
      obtain ⟨rfl, rfl⟩ := e0
      obtain ⟨rfl, rfl⟩ := e1
      exact ⟨x, y, z, k, rfl, bx, by_, bz, bk⟩
  | _ => simp [Value.cells] at hl

end
end Go.Proofs.Ytokhpppealdfmaf
