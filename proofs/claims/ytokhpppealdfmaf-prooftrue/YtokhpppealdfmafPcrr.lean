/-
  The document's Crosses (layer 7).
-/
import Derived.Test.YtokhpppealdfmafPcrf
import Derived.Test.YtokhpppealdfmafK11
namespace Go.Proofs.Ytokhpppealdfmaf
open Go.RowKit

set_option linter.unusedSimpArgs false in
set_option maxRecDepth 100000 in
set_option maxHeartbeats 40000000 in
theorem rcrosses_any (P Q G H : Int) (a : Option Addr) (n cap : Nat) (key y u1 m1 v1 u2 m2 v2 : Int) (w : World) (_h4 : Four P Q G H) (hr : Righ P Q G) (iu : inI P Q u1 = true) (im : inI P Q m1 = true) (iv : inI P Q v1 = true) (hm2 : U64 m2) (hv2 : U64 v2) :
    Calls Try.prog 37 #[gv P Q G H a n cap, .int .u64 key, .int .u64 y, tv u1 m1 v1, tv u2 m2 v2] w (GivesC w 3 (tri7 key (overI P m2 m1) (overI P v2 v1)) 3 (fun _ => 2) (tri7r (two7 G 1) (two7 1 G) (two7 (overI P 1 u1) y))) := by
  have HZ := lain4 w (gc P Q G H a n cap) (tc u1 m1 v1) (tc u2 m2 v2) (cc none 0 0 none 0 0) 25 62 62 34
  have HT0 : ∀ w', Old ((((w.alloc (.cells (gc P Q G H a n cap) 25)).alloc (.cells (tc u1 m1 v1) 62)).alloc (.cells (tc u2 m2 v2) 62)).alloc (.cells (cc none 0 0 none 0 0) 34)) w' → w'.cell? ⟨w.heap.size, 0, none⟩ = some (.int .u64 P) ∧ w'.cell? ⟨w.heap.size, 1, none⟩ = some (.int .u64 Q) ∧ w'.cell? ⟨w.heap.size, 2, none⟩ = some (.int .u64 G) ∧ w'.cell? ⟨w.heap.size, 3, none⟩ = some (.int .u64 H) ∧ w'.cell? ⟨w.heap.size, 4, none⟩ = some (.slice a n cap) ∧ w'.cell? ⟨w.heap.size + 1, 0, none⟩ = some (.int .u64 u1) ∧ w'.cell? ⟨w.heap.size + 1, 1, none⟩ = some (.int .u64 m1) ∧ w'.cell? ⟨w.heap.size + 1, 2, none⟩ = some (.int .u64 v1) ∧ w'.cell? ⟨w.heap.size + 1 + 1, 0, none⟩ = some (.int .u64 u2) ∧ w'.cell? ⟨w.heap.size + 1 + 1, 1, none⟩ = some (.int .u64 m2) ∧ w'.cell? ⟨w.heap.size + 1 + 1, 2, none⟩ = some (.int .u64 v2) := fun w' ho => by
    have h := HZ.then ho
    exact ⟨h.cell 0 0 (by simp) rfl, h.cell 0 1 (by simp) rfl, h.cell 0 2 (by simp) rfl, h.cell 0 3 (by simp) rfl, h.cell 0 4 (by simp) rfl, h.cell 1 0 (by simp) rfl, h.cell 1 1 (by simp) rfl, h.cell 1 2 (by simp) rfl, h.cell 2 0 (by simp) rfl, h.cell 2 1 (by simp) rfl, h.cell 2 2 (by simp) rfl⟩
  have HRS0 : ∀ w', Old ((((w.alloc (.cells (gc P Q G H a n cap) 25)).alloc (.cells (tc u1 m1 v1) 62)).alloc (.cells (tc u2 m2 v2) 62)).alloc (.cells (cc none 0 0 none 0 0) 34)) w' → w'.heap[w.heap.size + 1 + 1 + 1]? = some (.cells #[.slice none 0 0, .slice none 0 0] 34 (0, 0)) := fun w' ho => (HZ.then ho).row 3 (by simp)
  have hs0 : w.heap.size + 1 + 1 + 1 < ((((w.alloc (.cells (gc P Q G H a n cap) 25)).alloc (.cells (tc u1 m1 v1) 62)).alloc (.cells (tc u2 m2 v2) 62)).alloc (.cells (cc none 0 0 none 0 0) 34)).heap.size := by simp
  have H1 : Hid (∀ wx, Calls Try.prog 63 #[gv P Q G H a n cap, .int .u64 m2, .int .u64 m1] wx fun e w' => e = .returned (.int .u64 (overI P m2 m1)) ∧ Old wx w') := fun wx => rover_any P Q G H a n cap m2 m1 wx hm2 (inI_bd5 hr im)
  have H2 : Hid (∀ wx, Calls Try.prog 63 #[gv P Q G H a n cap, .int .u64 v2, .int .u64 v1] wx fun e w' => e = .returned (.int .u64 (overI P v2 v1)) ∧ Old wx w') := fun wx => rover_any P Q G H a n cap v2 v1 wx hv2 (inI_bd5 hr iv)
  have H3 : Hid (∀ wx, Calls Try.prog 63 #[gv P Q G H a n cap, .int .u64 1, .int .u64 u1] wx fun e w' => e = .returned (.int .u64 (overI P 1 u1)) ∧ Old wx w') := fun wx => rover_any P Q G H a n cap 1 u1 wx ⟨by omega, by omega⟩ (inI_bd5 hr iu)
  generalize overI P m2 m1 = o1 at *
  generalize overI P v2 v1 = o2 at *
  generalize overI P 1 u1 = o3 at *
  have HW0 : Hid (Old w ((((w.alloc (.cells (gc P Q G H a n cap) 25)).alloc (.cells (tc u1 m1 v1) 62)).alloc (.cells (tc u2 m2 v2) 62)).alloc (.cells (cc none 0 0 none 0 0) 34))) := HZ.old
  clear hr iu im iv hm2 hv2 HZ
  go_enter Try.func37, Try.ntmps37
  go_upto_region 1 with fail
  generalize ((((w.alloc (.cells (gc P Q G H a n cap) 25)).alloc (.cells (tc u1 m1 v1) 62)).alloc (.cells (tc u2 m2 v2) 62)).alloc (.cells (cc none 0 0 none 0 0) 34)) = W at *
  have HT : Hid (∀ w', Old W w' → w'.cell? ⟨w.heap.size, 0, none⟩ = some (.int .u64 P) ∧ w'.cell? ⟨w.heap.size, 1, none⟩ = some (.int .u64 Q) ∧ w'.cell? ⟨w.heap.size, 2, none⟩ = some (.int .u64 G) ∧ w'.cell? ⟨w.heap.size, 3, none⟩ = some (.int .u64 H) ∧ w'.cell? ⟨w.heap.size, 4, none⟩ = some (.slice a n cap) ∧ w'.cell? ⟨w.heap.size + 1, 0, none⟩ = some (.int .u64 u1) ∧ w'.cell? ⟨w.heap.size + 1, 1, none⟩ = some (.int .u64 m1) ∧ w'.cell? ⟨w.heap.size + 1, 2, none⟩ = some (.int .u64 v1) ∧ w'.cell? ⟨w.heap.size + 1 + 1, 0, none⟩ = some (.int .u64 u2) ∧ w'.cell? ⟨w.heap.size + 1 + 1, 1, none⟩ = some (.int .u64 m2) ∧ w'.cell? ⟨w.heap.size + 1 + 1, 2, none⟩ = some (.int .u64 v2)) := HT0
  have HRS : Hid (∀ w', Old W w' → w'.heap[w.heap.size + 1 + 1 + 1]? = some (.cells #[.slice none 0 0, .slice none 0 0] 34 (0, 0))) := HRS0
  clear HT0 HRS0
  refine wp_region_head 28 _ rfl rfl (Fac Old W (fun t => ⟨#[gv P Q G H a n cap, .int .u64 key, .int .u64 y, tv u1 m1 v1, tv u2 m2 v2, .pointer (some ⟨w.heap.size, 0, none⟩), undef, undef, .pointer (some ⟨w.heap.size + 1, 0, none⟩), .pointer (some ⟨w.heap.size + 1 + 1, 0, none⟩), .pointer (some ⟨w.heap.size + 1 + 1 + 1, 0, none⟩), t 11, t 12, t 13, t 14, t 15, t 16, t 17, t 18, t 19, t 20, t 21, t 22, t 23, t 24, t 25, t 26, t 27, t 28, t 29, t 30, t 31, t 32, t 33, t 34, t 35, t 36, t 37, t 38], []⟩) 11 (crsF W.heap.size w.heap.size P Q G H a n cap key y u1 m1 v1 m2 v2 o1 o2 o3)) (by kernel_rfl) (by kernel_rfl) (by kernel_rfl) ⟨(Old.refl _).drew, fun _ => undef, rfl, fun _ h => by cases h⟩ ?step ?fin
  case step =>
    refine stepsOk.cons ?_ ?_
    · intro l a2 wx K hli hpre hJ hK
      obtain ⟨hO, t, rfl, hf⟩ := hJ
      rw [if_pos (by rfl)]
      go_simp
      exact hK.out _ _ (Fac.keep 0 (.int .u64 key) rfl hf (fun _ _ h => h) hO rfl)
    refine stepsOk.cons ?_ ?_
    · intro l a2 wx K hli hpre hJ hK
      obtain ⟨hO, t, rfl, hf⟩ := hJ
      obtain ⟨d0, d1, d2, d3, d4, e0, e1, e2, f0, f1, f2⟩ := HT.out _ hO
      rw [if_pos (by rfl)]
      go_simp
      exact hK.out _ _ (Fac.keep 1 (gv P Q G H a n cap) rfl hf (fun _ _ h => h) hO rfl)
    refine stepsOk.cons ?_ ?_
    · intro l a2 wx K hli hpre hJ hK
      obtain ⟨hO, t, rfl, hf⟩ := hJ
      rw [if_pos (by rfl)]
      go_simp
      exact hK.out _ _ (Fac.keep 2 (.pointer (some ⟨w.heap.size + 1 + 1, 1, none⟩)) rfl hf (fun _ _ h => h) hO rfl)
    refine stepsOk.cons ?_ ?_
    · intro l a2 wx K hli hpre hJ hK
      obtain ⟨hO, t, rfl, hf⟩ := hJ
      have p13 : t 13 = .pointer (some ⟨w.heap.size + 1 + 1, 1, none⟩) := hf 2 (hpre ⟨2, .data⟩ (by simp) (by rfl))
      obtain ⟨d0, d1, d2, d3, d4, e0, e1, e2, f0, f1, f2⟩ := HT.out _ hO
      rw [if_pos (by rfl)]
      go_simp
      exact hK.out _ _ (Fac.keep 3 (.int .u64 m2) (by (try simp only [← p13]); rfl) hf (fun _ _ h => h) hO rfl)
    refine stepsOk.cons ?_ ?_
    · intro l a2 wx K hli hpre hJ hK
      obtain ⟨hO, t, rfl, hf⟩ := hJ
      rw [if_pos (by rfl)]
      go_simp
      exact hK.out _ _ (Fac.keep 4 (.pointer (some ⟨w.heap.size + 1, 1, none⟩)) rfl hf (fun _ _ h => h) hO rfl)
    refine stepsOk.cons ?_ ?_
    · intro l a2 wx K hli hpre hJ hK
      obtain ⟨hO, t, rfl, hf⟩ := hJ
      have p15 : t 15 = .pointer (some ⟨w.heap.size + 1, 1, none⟩) := hf 4 (hpre ⟨4, .data⟩ (by simp) (by rfl))
      obtain ⟨d0, d1, d2, d3, d4, e0, e1, e2, f0, f1, f2⟩ := HT.out _ hO
      rw [if_pos (by rfl)]
      go_simp
      exact hK.out _ _ (Fac.keep 5 (.int .u64 m1) (by (try simp only [← p15]); rfl) hf (fun _ _ h => h) hO rfl)
    refine stepsOk.cons ?_ ?_
    · intro l a2 wx K hli hpre hJ hK
      obtain ⟨hO, t, rfl, hf⟩ := hJ
      have p12 : t 12 = gv P Q G H a n cap := hf 1 (hpre ⟨1, .data⟩ (by simp) (by rfl))
      have p14 : t 14 = .int .u64 m2 := hf 3 (hpre ⟨3, .data⟩ (by simp) (by rfl))
      have p16 : t 16 = .int .u64 m1 := hf 5 (hpre ⟨5, .data⟩ (by simp) (by rfl))
      rw [if_pos (by rfl)]
      go_simp
      refine (H1.out _).mono ?_
      rintro e wz ⟨rfl, oz⟩
      exact hK.out _ _ (Fac.keep 6 (.int .u64 o1) (by (try simp only [← p12, ← p14, ← p16]); rfl) hf (fun k u h => crsF_old k u h oz) (hO.trans oz) rfl)
    refine stepsOk.cons ?_ ?_
    · intro l a2 wx K hli hpre hJ hK
      obtain ⟨hO, t, rfl, hf⟩ := hJ
      obtain ⟨d0, d1, d2, d3, d4, e0, e1, e2, f0, f1, f2⟩ := HT.out _ hO
      rw [if_pos (by rfl)]
      go_simp
      exact hK.out _ _ (Fac.keep 7 (gv P Q G H a n cap) rfl hf (fun _ _ h => h) hO rfl)
    refine stepsOk.cons ?_ ?_
    · intro l a2 wx K hli hpre hJ hK
      obtain ⟨hO, t, rfl, hf⟩ := hJ
      rw [if_pos (by rfl)]
      go_simp
      exact hK.out _ _ (Fac.keep 8 (.pointer (some ⟨w.heap.size + 1 + 1, 2, none⟩)) rfl hf (fun _ _ h => h) hO rfl)
    refine stepsOk.cons ?_ ?_
    · intro l a2 wx K hli hpre hJ hK
      obtain ⟨hO, t, rfl, hf⟩ := hJ
      have p19 : t 19 = .pointer (some ⟨w.heap.size + 1 + 1, 2, none⟩) := hf 8 (hpre ⟨8, .data⟩ (by simp) (by rfl))
      obtain ⟨d0, d1, d2, d3, d4, e0, e1, e2, f0, f1, f2⟩ := HT.out _ hO
      rw [if_pos (by rfl)]
      go_simp
      exact hK.out _ _ (Fac.keep 9 (.int .u64 v2) (by (try simp only [← p19]); rfl) hf (fun _ _ h => h) hO rfl)
    refine stepsOk.cons ?_ ?_
    · intro l a2 wx K hli hpre hJ hK
      obtain ⟨hO, t, rfl, hf⟩ := hJ
      rw [if_pos (by rfl)]
      go_simp
      exact hK.out _ _ (Fac.keep 10 (.pointer (some ⟨w.heap.size + 1, 2, none⟩)) rfl hf (fun _ _ h => h) hO rfl)
    refine stepsOk.cons ?_ ?_
    · intro l a2 wx K hli hpre hJ hK
      obtain ⟨hO, t, rfl, hf⟩ := hJ
      have p21 : t 21 = .pointer (some ⟨w.heap.size + 1, 2, none⟩) := hf 10 (hpre ⟨10, .data⟩ (by simp) (by rfl))
      obtain ⟨d0, d1, d2, d3, d4, e0, e1, e2, f0, f1, f2⟩ := HT.out _ hO
      rw [if_pos (by rfl)]
      go_simp
      exact hK.out _ _ (Fac.keep 11 (.int .u64 v1) (by (try simp only [← p21]); rfl) hf (fun _ _ h => h) hO rfl)
    refine stepsOk.cons ?_ ?_
    · intro l a2 wx K hli hpre hJ hK
      obtain ⟨hO, t, rfl, hf⟩ := hJ
      have p18 : t 18 = gv P Q G H a n cap := hf 7 (hpre ⟨7, .data⟩ (by simp) (by rfl))
      have p20 : t 20 = .int .u64 v2 := hf 9 (hpre ⟨9, .data⟩ (by simp) (by rfl))
      have p22 : t 22 = .int .u64 v1 := hf 11 (hpre ⟨11, .data⟩ (by simp) (by rfl))
      rw [if_pos (by rfl)]
      go_simp
      refine (H2.out _).mono ?_
      rintro e wz ⟨rfl, oz⟩
      exact hK.out _ _ (Fac.keep 12 (.int .u64 o2) (by (try simp only [← p18, ← p20, ← p22]); rfl) hf (fun k u h => crsF_old k u h oz) (hO.trans oz) rfl)
    refine stepsOk.cons ?_ ?_
    · intro l a2 wx K hli hpre hJ hK
      obtain ⟨hO, t, rfl, hf⟩ := hJ
      have p11 : t 11 = .int .u64 key := hf 0 (hpre ⟨0, .data⟩ (by simp) (by rfl))
      have p17 : t 17 = .int .u64 o1 := hf 6 (hpre ⟨6, .data⟩ (by simp) (by rfl))
      have p23 : t 23 = .int .u64 o2 := hf 12 (hpre ⟨12, .data⟩ (by simp) (by rfl))
      rw [if_pos (by rfl)]
      go_simp
      exact hK.out _ _ (Fac.keep 13 (.slice (some ⟨wx.heap.size, 0, none⟩) 3 3) (by (try simp only [← p11, ← p17, ← p23]); rfl) hf (fun k u h => crsF_old k u h ((Old.refl _).alloc _)) (hO.alloc _) (⟨_, rfl, nums_new wx W.heap.size 3 [.int .u64 key, .int .u64 o1, .int .u64 o2] (tri7 key o1 o2) hO.size (by omega) rfl⟩))
    refine stepsOk.cons ?_ ?_
    · intro l a2 wx K hli hpre hJ hK
      obtain ⟨hO, t, rfl, hf⟩ := hJ
      rw [if_pos (by rfl)]
      go_simp
      exact hK.out _ _ (Fac.keep 14 (.pointer (some ⟨w.heap.size, 2, none⟩)) rfl hf (fun _ _ h => h) hO rfl)
    refine stepsOk.cons ?_ ?_
    · intro l a2 wx K hli hpre hJ hK
      obtain ⟨hO, t, rfl, hf⟩ := hJ
      have p25 : t 25 = .pointer (some ⟨w.heap.size, 2, none⟩) := hf 14 (hpre ⟨14, .data⟩ (by simp) (by rfl))
      obtain ⟨d0, d1, d2, d3, d4, e0, e1, e2, f0, f1, f2⟩ := HT.out _ hO
      rw [if_pos (by rfl)]
      go_simp
      exact hK.out _ _ (Fac.keep 15 (.int .u64 G) (by (try simp only [← p25]); rfl) hf (fun _ _ h => h) hO rfl)
    refine stepsOk.cons ?_ ?_
    · intro l a2 wx K hli hpre hJ hK
      obtain ⟨hO, t, rfl, hf⟩ := hJ
      have p26 : t 26 = .int .u64 G := hf 15 (hpre ⟨15, .data⟩ (by simp) (by rfl))
      rw [if_pos (by rfl)]
      go_simp
      exact hK.out _ _ (Fac.keep 16 (.slice (some ⟨wx.heap.size, 0, none⟩) 2 2) (by (try simp only [← p26]); rfl) hf (fun k u h => crsF_old k u h ((Old.refl _).alloc _)) (hO.alloc _) (⟨_, rfl, nums_new wx W.heap.size 2 [.int .u64 G, .int .u64 1] (two7 G 1) hO.size (by omega) rfl⟩))
    refine stepsOk.cons ?_ ?_
    · intro l a2 wx K hli hpre hJ hK
      obtain ⟨hO, t, rfl, hf⟩ := hJ
      rw [if_pos (by rfl)]
      go_simp
      exact hK.out _ _ (Fac.keep 17 (.pointer (some ⟨w.heap.size, 2, none⟩)) rfl hf (fun _ _ h => h) hO rfl)
    refine stepsOk.cons ?_ ?_
    · intro l a2 wx K hli hpre hJ hK
      obtain ⟨hO, t, rfl, hf⟩ := hJ
      have p28 : t 28 = .pointer (some ⟨w.heap.size, 2, none⟩) := hf 17 (hpre ⟨17, .data⟩ (by simp) (by rfl))
      obtain ⟨d0, d1, d2, d3, d4, e0, e1, e2, f0, f1, f2⟩ := HT.out _ hO
      rw [if_pos (by rfl)]
      go_simp
      exact hK.out _ _ (Fac.keep 18 (.int .u64 G) (by (try simp only [← p28]); rfl) hf (fun _ _ h => h) hO rfl)
    refine stepsOk.cons ?_ ?_
    · intro l a2 wx K hli hpre hJ hK
      obtain ⟨hO, t, rfl, hf⟩ := hJ
      have p29 : t 29 = .int .u64 G := hf 18 (hpre ⟨18, .data⟩ (by simp) (by rfl))
      rw [if_pos (by rfl)]
      go_simp
      exact hK.out _ _ (Fac.keep 19 (.slice (some ⟨wx.heap.size, 0, none⟩) 2 2) (by (try simp only [← p29]); rfl) hf (fun k u h => crsF_old k u h ((Old.refl _).alloc _)) (hO.alloc _) (⟨_, rfl, nums_new wx W.heap.size 2 [.int .u64 1, .int .u64 G] (two7 1 G) hO.size (by omega) rfl⟩))
    refine stepsOk.cons ?_ ?_
    · intro l a2 wx K hli hpre hJ hK
      obtain ⟨hO, t, rfl, hf⟩ := hJ
      obtain ⟨d0, d1, d2, d3, d4, e0, e1, e2, f0, f1, f2⟩ := HT.out _ hO
      rw [if_pos (by rfl)]
      go_simp
      exact hK.out _ _ (Fac.keep 20 (gv P Q G H a n cap) rfl hf (fun _ _ h => h) hO rfl)
    refine stepsOk.cons ?_ ?_
    · intro l a2 wx K hli hpre hJ hK
      obtain ⟨hO, t, rfl, hf⟩ := hJ
      rw [if_pos (by rfl)]
      go_simp
      exact hK.out _ _ (Fac.keep 21 (.pointer (some ⟨w.heap.size + 1, 0, none⟩)) rfl hf (fun _ _ h => h) hO rfl)
    refine stepsOk.cons ?_ ?_
    · intro l a2 wx K hli hpre hJ hK
      obtain ⟨hO, t, rfl, hf⟩ := hJ
      have p32 : t 32 = .pointer (some ⟨w.heap.size + 1, 0, none⟩) := hf 21 (hpre ⟨21, .data⟩ (by simp) (by rfl))
      obtain ⟨d0, d1, d2, d3, d4, e0, e1, e2, f0, f1, f2⟩ := HT.out _ hO
      rw [if_pos (by rfl)]
      go_simp
      exact hK.out _ _ (Fac.keep 22 (.int .u64 u1) (by (try simp only [← p32]); rfl) hf (fun _ _ h => h) hO rfl)
    refine stepsOk.cons ?_ ?_
    · intro l a2 wx K hli hpre hJ hK
      obtain ⟨hO, t, rfl, hf⟩ := hJ
      have p31 : t 31 = gv P Q G H a n cap := hf 20 (hpre ⟨20, .data⟩ (by simp) (by rfl))
      have p33 : t 33 = .int .u64 u1 := hf 22 (hpre ⟨22, .data⟩ (by simp) (by rfl))
      rw [if_pos (by rfl)]
      go_simp
      refine (H3.out _).mono ?_
      rintro e wz ⟨rfl, oz⟩
      exact hK.out _ _ (Fac.keep 23 (.int .u64 o3) (by (try simp only [← p31, ← p33]); rfl) hf (fun k u h => crsF_old k u h oz) (hO.trans oz) rfl)
    refine stepsOk.cons ?_ ?_
    · intro l a2 wx K hli hpre hJ hK
      obtain ⟨hO, t, rfl, hf⟩ := hJ
      rw [if_pos (by rfl)]
      go_simp
      exact hK.out _ _ (Fac.keep 24 (.int .u64 y) rfl hf (fun _ _ h => h) hO rfl)
    refine stepsOk.cons ?_ ?_
    · intro l a2 wx K hli hpre hJ hK
      obtain ⟨hO, t, rfl, hf⟩ := hJ
      have p34 : t 34 = .int .u64 o3 := hf 23 (hpre ⟨23, .data⟩ (by simp) (by rfl))
      have p35 : t 35 = .int .u64 y := hf 24 (hpre ⟨24, .data⟩ (by simp) (by rfl))
      rw [if_pos (by rfl)]
      go_simp
      exact hK.out _ _ (Fac.keep 25 (.slice (some ⟨wx.heap.size, 0, none⟩) 2 2) (by (try simp only [← p34, ← p35]); rfl) hf (fun k u h => crsF_old k u h ((Old.refl _).alloc _)) (hO.alloc _) (⟨_, rfl, nums_new wx W.heap.size 2 [.int .u64 o3, .int .u64 y] (two7 o3 y) hO.size (by omega) rfl⟩))
    refine stepsOk.cons ?_ ?_
    · intro l a2 wx K hli hpre hJ hK
      obtain ⟨hO, t, rfl, hf⟩ := hJ
      have P16 : ∃ b, t 27 = .slice (some ⟨b, 0, none⟩) 2 2 ∧ Nums wx W.heap.size (t 27) 2 (two7 G 1) := hf 16 (hpre ⟨16, .data⟩ (by simp) (by rfl))
      have P19 : ∃ b, t 30 = .slice (some ⟨b, 0, none⟩) 2 2 ∧ Nums wx W.heap.size (t 30) 2 (two7 1 G) := hf 19 (hpre ⟨19, .data⟩ (by simp) (by rfl))
      have P25 : ∃ b, t 36 = .slice (some ⟨b, 0, none⟩) 2 2 ∧ Nums wx W.heap.size (t 36) 2 (two7 o3 y) := hf 25 (hpre ⟨25, .data⟩ (by simp) (by rfl))
      obtain ⟨b1, e1, N1⟩ := P16
      obtain ⟨b2, e2, N2⟩ := P19
      obtain ⟨b3, e3, N3⟩ := P25
      rw [e1] at N1
      rw [e2] at N2
      rw [e3] at N3
      have HN1 : Hid _ := N1
      have HN2 : Hid _ := N2
      have HN3 : Hid _ := N3
      clear N1 N2 N3
      rw [if_pos (by rfl)]
      go_simp
      exact hK.out _ _ (Fac.keep 26 (.slice (some ⟨wx.heap.size, 0, none⟩) 3 3) (by (try simp only [← e1, ← e2, ← e3]); rfl) hf (fun k u h => crsF_old k u h ((Old.refl _).alloc _)) (hO.alloc _) (⟨_, rfl, rws_new wx W.heap.size 3 [.slice (some ⟨b1, 0, none⟩) 2 2, .slice (some ⟨b2, 0, none⟩) 2 2, .slice (some ⟨b3, 0, none⟩) 2 2] (tri7a (some ⟨b1, 0, none⟩) (some ⟨b2, 0, none⟩) (some ⟨b3, 0, none⟩)) (fun _ => 2) (fun _ => 2) (tri7r (two7 G 1) (two7 1 G) (two7 o3 y)) hO.size (by omega) rfl (lt3 HN1.out HN2.out HN3.out)⟩))
    refine stepsOk.cons ?_ ?_
    · intro l a2 wx K hli hpre hJ hK
      obtain ⟨hO, t, rfl, hf⟩ := hJ
      have P13 : ∃ b, t 24 = .slice (some ⟨b, 0, none⟩) 3 3 ∧ Nums wx W.heap.size (t 24) 3 (tri7 key o1 o2) := hf 13 (hpre ⟨13, .data⟩ (by simp) (by rfl))
      have P26 : ∃ b, t 37 = .slice (some ⟨b, 0, none⟩) 3 3 ∧ Rws wx W.heap.size (t 37) 3 (fun _ => 2) (tri7r (two7 G 1) (two7 1 G) (two7 o3 y)) := hf 26 (hpre ⟨26, .data⟩ (by simp) (by rfl))
      obtain ⟨b1, e1, N1⟩ := P13
      obtain ⟨b2, e2, N2⟩ := P26
      rw [e1] at N1
      rw [e2] at N2
      have HN1 : Hid _ := N1
      have HN2 : Hid _ := N2
      clear N1 N2
      rw [if_pos (by rfl)]
      go_simp
      exact hK.out _ _ (Fac.keep 27 (.agg #[.slice (some ⟨b1, 0, none⟩) 3 3, .slice (some ⟨b2, 0, none⟩) 3 3]) (by (try simp only [← e1, ← e2]); rfl) hf (fun _ _ h => h) hO ⟨_, _, rfl, HN1.out, HN2.out⟩)
    exact trivial
  case fin =>
    intro m a2 wx K hall hJ hK
    obtain ⟨hO, t, rfl, hf⟩ := hJ
    have P27 : ∃ x z, t 38 = .agg #[.slice (some ⟨x, 0, none⟩) 3 3, .slice (some ⟨z, 0, none⟩) 3 3] ∧ Nums wx W.heap.size (.slice (some ⟨x, 0, none⟩) 3 3) 3 (tri7 key o1 o2) ∧ Rws wx W.heap.size (.slice (some ⟨z, 0, none⟩) 3 3) 3 (fun _ => 2) (tri7r (two7 G 1) (two7 1 G) (two7 o3 y)) := hf 27 (hall 27 (by omega))
    obtain ⟨x, z, e38, N1, N2⟩ := P27
    have HN1 : Hid _ := N1
    have HN2 : Hid _ := N2
    clear N1 N2 hf hall
    have HR := HRS.out _ hO
    have q0 : wx.cell? ⟨w.heap.size + 1 + 1 + 1, 0, none⟩ = some (.slice none 0 0) := cell_of_row _ _ 0 _ _ (0, 0) HR
    have q1 : wx.cell? ⟨w.heap.size + 1 + 1 + 1, 1, none⟩ = some (.slice none 0 0) := cell_of_row _ _ 1 _ _ (0, 0) HR
    have f0 : wx.frozen? ⟨w.heap.size + 1 + 1 + 1, 0, none⟩ = false := row_frozen HR 0
    have f1 : wx.frozen? ⟨w.heap.size + 1 + 1 + 1, 1, none⟩ = false := row_frozen HR 1
    have HRh : Hid (wx.heap[w.heap.size + 1 + 1 + 1]? = some (.cells #[.slice none 0 0, .slice none 0 0] 34 (0, 0))) := HR
    have HOh : Hid (Old W wx) := hO
    clear HR hO
    rw [if_pos (by rfl)]
    go_simp
    refine hK.out _ _ ?_
    go_wp2_with fail
    exact bodyPost_ret (result5 (b := w.heap.size + 1 + 1 + 1) rfl rfl (load_two HRh.out Try.underlying34 info_claim)) rfl (givesC_set (by omega) hs0 (HW0.out.trans HOh.out) (Nat.le_trans HW0.out.size (Nat.le_refl _)) HN1.out HN2.out)

end Go.Proofs.Ytokhpppealdfmaf
