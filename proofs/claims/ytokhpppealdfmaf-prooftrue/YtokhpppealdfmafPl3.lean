/-
  The statement's walk (layer 7): ProofClaims.
-/
import Derived.Test.YtokhpppealdfmafPawk2
import Derived.Test.YtokhpppealdfmafPali
import Derived.Test.YtokhpppealdfmafPknr
import Derived.Test.YtokhpppealdfmafPcrr
import Derived.Test.YtokhpppealdfmafPcrp
namespace Go.Proofs.Ytokhpppealdfmaf
open Go.RowKit

def nine7 (x0 x1 x2 x3 x4 x5 x6 x7 x8 : Int) : Nat → Int
  | 0 => x0
  | 1 => x1
  | 2 => x2
  | 3 => x3
  | 4 => x4
  | 5 => x5
  | 6 => x6
  | 7 => x7
  | _ => x8
theorem u64_nine {x0 x1 x2 x3 x4 x5 x6 x7 x8 : Int} (h0 : U64 x0) (h1 : U64 x1) (h2 : U64 x2) (h3 : U64 x3) (h4 : U64 x4) (h5 : U64 x5) (h6 : U64 x6) (h7 : U64 x7) (h8 : U64 x8) : ∀ j, U64 (nine7 x0 x1 x2 x3 x4 x5 x6 x7 x8 j)
  | 0 => h0
  | 1 => h1
  | 2 => h2
  | 3 => h3
  | 4 => h4
  | 5 => h5
  | 6 => h6
  | 7 => h7
  | _ + 8 => h8
theorem u64_two7r {x y : Nat → Int} (hx : ∀ i, U64 (x i)) (hy : ∀ i, U64 (y i)) : ∀ j i, U64 (two7r x y j i)
  | 0, i => hx i
  | _ + 1, i => hy i
theorem u64_tri7r {x y z : Nat → Int} (hx : ∀ i, U64 (x i)) (hy : ∀ i, U64 (y i)) (hz : ∀ i, U64 (z i)) : ∀ j i, U64 (tri7r x y z j i)
  | 0, i => hx i
  | 1, i => hy i
  | _ + 2, i => hz i

set_option linter.unusedSimpArgs false in
set_option maxRecDepth 100000 in
set_option maxHeartbeats 40000000 in
theorem law_claims (P Q G H u0 v0 u1 v1 u2 v2 a1 a2 a3 b1 b2 b3 : Int) (a : Option Addr) (n cap : Nat) (N A : Nat → Int) (FA : Nat → Option Addr) (RL RC : Nat → Nat) (RF : Nat → Nat → Int) (w : World) (h4 : Four P Q G H) (_hcap : n ≤ cap) (hin : RowsIn w a n N A FA RL RC RF) (hu0 : U64 u0) (_hv0 : U64 v0) (hu1 : U64 u1) (_hv1 : U64 v1) (hu2 : U64 u2) (hv2 : U64 v2) (ha1 : U64 a1) (ha2 : U64 a2) (ha3 : U64 a3) (_hb1 : U64 b1) (hb2 : U64 b2) (hb3 : U64 b3) :
    Calls Try.prog 7 #[gv P Q G H a n cap, .agg #[.int .u64 u0, .int .u64 v0, .int .u64 u1, .int .u64 v1, .int .u64 u2, .int .u64 v2], .agg #[.int .u64 a1, .int .u64 a2, .int .u64 a3, .int .u64 b1, .int .u64 b2, .int .u64 b3]] w fun e w' => e = .returned (.bool true) ∧ Old w w' := by
  have HZ := lain3 w (gc P Q G H a n cap) #[.int .u64 u0, .int .u64 v0, .int .u64 u1, .int .u64 v1, .int .u64 u2, .int .u64 v2] #[.int .u64 a1, .int .u64 a2, .int .u64 a3, .int .u64 b1, .int .u64 b2, .int .u64 b3] 25 60 63
  have HA : Hid (∀ wx, Calls Try.prog 20 #[] wx fun e w' => e = .returned (.bool true) ∧ Old wx w') := fun wx => awake7_any wx
  have HU : Hid (∀ wx, Old w wx → Calls Try.prog 10 #[gv P Q G H a n cap] wx fun e w' => e = .returned (.bool (fewB RL n && rightI P Q G H N A RF RL n)) ∧ Old wx w') := fun wx ho => group5_any P Q G H a n cap N A FA RL RC RF wx h4 (hin.old ho)
  have ha := hin.a0
  clear hin
  go_enter Try.func7, Try.ntmps7
  go_upto_region 1 with fail
  generalize ((w.alloc (.cells (gc P Q G H a n cap) 25)).alloc (.cells #[.int .u64 u0, .int .u64 v0, .int .u64 u1, .int .u64 v1, .int .u64 u2, .int .u64 v2] 60)).alloc (.cells #[.int .u64 a1, .int .u64 a2, .int .u64 a3, .int .u64 b1, .int .u64 b2, .int .u64 b3] 63) = W at *
  have HW0 : Hid (Old w W) := HZ.old
  have HT : Hid (∀ w', Old W w' → w'.cell? ⟨w.heap.size, 0, none⟩ = some (.int .u64 P) ∧ w'.cell? ⟨w.heap.size, 1, none⟩ = some (.int .u64 Q) ∧ w'.cell? ⟨w.heap.size, 2, none⟩ = some (.int .u64 G) ∧ w'.cell? ⟨w.heap.size, 3, none⟩ = some (.int .u64 H) ∧ w'.cell? ⟨w.heap.size, 4, none⟩ = some (.slice a n cap) ∧ w'.cell? ⟨w.heap.size + 1, 0, none⟩ = some (.int .u64 u0) ∧ w'.cell? ⟨w.heap.size + 1, 1, none⟩ = some (.int .u64 v0) ∧ w'.cell? ⟨w.heap.size + 1, 2, none⟩ = some (.int .u64 u1) ∧ w'.cell? ⟨w.heap.size + 1, 3, none⟩ = some (.int .u64 v1) ∧ w'.cell? ⟨w.heap.size + 1, 4, none⟩ = some (.int .u64 u2) ∧ w'.cell? ⟨w.heap.size + 1, 5, none⟩ = some (.int .u64 v2) ∧ w'.cell? ⟨w.heap.size + 1 + 1, 0, none⟩ = some (.int .u64 a1) ∧ w'.cell? ⟨w.heap.size + 1 + 1, 1, none⟩ = some (.int .u64 a2) ∧ w'.cell? ⟨w.heap.size + 1 + 1, 2, none⟩ = some (.int .u64 a3) ∧ w'.cell? ⟨w.heap.size + 1 + 1, 3, none⟩ = some (.int .u64 b1) ∧ w'.cell? ⟨w.heap.size + 1 + 1, 4, none⟩ = some (.int .u64 b2) ∧ w'.cell? ⟨w.heap.size + 1 + 1, 5, none⟩ = some (.int .u64 b3)) := fun w' ho => by
    have h := HZ.then ho
    exact ⟨h.cell 0 0 (by simp) rfl, h.cell 0 1 (by simp) rfl, h.cell 0 2 (by simp) rfl, h.cell 0 3 (by simp) rfl, h.cell 0 4 (by simp) rfl, h.cell 1 0 (by simp) rfl, h.cell 1 1 (by simp) rfl, h.cell 1 2 (by simp) rfl, h.cell 1 3 (by simp) rfl, h.cell 1 4 (by simp) rfl, h.cell 1 5 (by simp) rfl, h.cell 2 0 (by simp) rfl, h.cell 2 1 (by simp) rfl, h.cell 2 2 (by simp) rfl, h.cell 2 3 (by simp) rfl, h.cell 2 4 (by simp) rfl, h.cell 2 5 (by simp) rfl⟩
  clear HZ
  go_upto_region 3 with (go_at_call 20; refine (HA.out _).mono ?_; rintro e w1 ⟨rfl, h1⟩; obtain ⟨d0, d1, d2, d3, d4, x0, x1, x2, x3, x4, x5, t0, t1, t2, t3, t4, t5⟩ := HT.out _ h1)
  cases hg : (fewB RL n && rightI P Q G H N A RF RL n)
  · rw [hg] at HU
    clear hg ha h4
    go_wp2_with (go_at_call 10; refine (HU.out _ (HW0.out.trans h1)).mono ?_; rintro e w2 ⟨rfl, o2⟩)
    go_ret
    exact ⟨rfl, (HW0.out.trans h1).trans o2⟩
  have hg' := Bool.and_eq_true_iff.1 hg
  have hR := right_righ ha hg'.2
  rw [hg] at HU
  clear hg hg' ha
  go_upto_region 5 with (go_at_call 10; refine (HU.out _ (HW0.out.trans h1)).mono ?_; rintro e w2 ⟨rfl, o2⟩; have h2 : Old W w2 := h1.trans o2)
  clear HA HU d0 d1 d2 d3 d4 x0 x1 x2 x3 x4 x5 t0 t1 t2 t3 t4 t5
  have HW2 : Hid (Old W w2) := h2
  clear h2 o2 h1
  obtain ⟨d0, d1, d2, d3, d4, x0, x1, x2, x3, x4, x5, t0, t1, t2, t3, t4, t5⟩ := HT.out _ HW2.out
  go_region_held3 (fun w' => w'.cell? ⟨w.heap.size + 1, 0, none⟩ = some (.int .u64 u0) ∧ w'.cell? ⟨w.heap.size + 1, 2, none⟩ = some (.int .u64 u1) ∧ w'.cell? ⟨w.heap.size + 1, 4, none⟩ = some (.int .u64 u2) ∧ w'.cell? ⟨w.heap.size + 1, 5, none⟩ = some (.int .u64 v2)) (first | (go_keep; done)) (fail)
  clear d0 d1 d2 d3 d4 x0 x1 x2 x3 x4 x5 t0 t1 t2 t3 t4 t5
  have HW3 : Hid (Old W (w2.alloc (.cells #[.int .u64 u2, .int .u64 v2] 58)).drew) := (HW2.out.alloc _).drew
  have HP3 : Hid (∀ w', Old (w2.alloc (.cells #[.int .u64 u2, .int .u64 v2] 58)).drew w' → w'.cell? ⟨w2.heap.size, 0, none⟩ = some (.int .u64 u2) ∧ w'.cell? ⟨w2.heap.size, 1, none⟩ = some (.int .u64 v2)) := fun w' ho => ⟨ho.cellOf ((World.cell?_alloc_mark w2 _ _ (0, 0) 0).trans rfl), ho.cellOf ((World.cell?_alloc_mark w2 _ _ (0, 0) 1).trans rfl)⟩
  generalize (w2.alloc (.cells #[.int .u64 u2, .int .u64 v2] 58)).drew = w3 at *
  generalize w2.heap.size = pb at *
  have HT3 : Hid (∀ w', Old w3 w' → (w'.cell? ⟨w.heap.size, 0, none⟩ = some (.int .u64 P) ∧ w'.cell? ⟨w.heap.size, 1, none⟩ = some (.int .u64 Q) ∧ w'.cell? ⟨w.heap.size, 2, none⟩ = some (.int .u64 G) ∧ w'.cell? ⟨w.heap.size, 3, none⟩ = some (.int .u64 H) ∧ w'.cell? ⟨w.heap.size, 4, none⟩ = some (.slice a n cap) ∧ w'.cell? ⟨w.heap.size + 1, 0, none⟩ = some (.int .u64 u0) ∧ w'.cell? ⟨w.heap.size + 1, 1, none⟩ = some (.int .u64 v0) ∧ w'.cell? ⟨w.heap.size + 1, 2, none⟩ = some (.int .u64 u1) ∧ w'.cell? ⟨w.heap.size + 1, 3, none⟩ = some (.int .u64 v1) ∧ w'.cell? ⟨w.heap.size + 1, 4, none⟩ = some (.int .u64 u2) ∧ w'.cell? ⟨w.heap.size + 1, 5, none⟩ = some (.int .u64 v2) ∧ w'.cell? ⟨w.heap.size + 1 + 1, 0, none⟩ = some (.int .u64 a1) ∧ w'.cell? ⟨w.heap.size + 1 + 1, 1, none⟩ = some (.int .u64 a2) ∧ w'.cell? ⟨w.heap.size + 1 + 1, 2, none⟩ = some (.int .u64 a3) ∧ w'.cell? ⟨w.heap.size + 1 + 1, 3, none⟩ = some (.int .u64 b1) ∧ w'.cell? ⟨w.heap.size + 1 + 1, 4, none⟩ = some (.int .u64 b2) ∧ w'.cell? ⟨w.heap.size + 1 + 1, 5, none⟩ = some (.int .u64 b3)) ∧ w'.cell? ⟨pb, 0, none⟩ = some (.int .u64 u2) ∧ w'.cell? ⟨pb, 1, none⟩ = some (.int .u64 v2)) := fun w' ho => ⟨HT.out _ (HW3.out.trans ho), HP3.out _ ho⟩
  have HOw : Hid (∀ w', Old w3 w' → Old w w') := fun w' ho => (HW0.out.trans HW3.out).trans ho
  obtain ⟨⟨d0, d1, d2, d3, d4, x0, x1, x2, x3, x4, x5, t0, t1, t2, t3, t4, t5⟩, p0, p1⟩ := HT3.out _ (Old.refl _)
  have HN0 := nums_new w3 w3.heap.size 9 [.int .u64 u0, .int .u64 u1, .int .u64 u2, .int .u64 v2, .int .u64 a1, .int .u64 a2, .int .u64 a3, .int .u64 b2, .int .u64 b3] (nine7 u0 u1 u2 v2 a1 a2 a3 b2 b3) (Nat.le_refl _) (by omega) rfl
  obtain ⟨_, _, e9, _, F9⟩ := HN0.facs (fun j _ => u64_nine hu0 hu1 hu2 hv2 ha1 ha2 ha3 hb2 hb3 j)
  cases e9
  have HF9 : Hid (FacsIn (w3.alloc (.cells #[.int .u64 u0, .int .u64 u1, .int .u64 u2, .int .u64 v2, .int .u64 a1, .int .u64 a2, .int .u64 a3, .int .u64 b2, .int .u64 b3] 22)) (some ⟨w3.heap.size, 0, none⟩) 9 (nine7 u0 u1 u2 v2 a1 a2 a3 b2 b3)) := F9
  have HN9 : Hid (∀ j, nine7 u0 u1 u2 v2 a1 a2 a3 b2 b3 j ≤ 18446744073709551615) := fun j => (u64_nine hu0 hu1 hu2 hv2 ha1 ha2 ha3 hb2 hb3 j).2
  clear HN0 F9
  go_upto_region 7 with fail
  clear d0 d1 d2 d3 d4 x0 x1 x2 x3 x4 x5 t0 t1 t2 t3 t4 t5 p0 p1
  have HW4 : Hid (Old w3 (w3.alloc (.cells #[.int .u64 u0, .int .u64 u1, .int .u64 u2, .int .u64 v2, .int .u64 a1, .int .u64 a2, .int .u64 a3, .int .u64 b2, .int .u64 b3] 22))) := (Old.refl _).alloc _
  generalize w3.alloc (.cells #[.int .u64 u0, .int .u64 u1, .int .u64 u2, .int .u64 v2, .int .u64 a1, .int .u64 a2, .int .u64 a3, .int .u64 b2, .int .u64 b3] 22) = w4 at *
  have HI : Hid (∀ x wx, x ≤ 18446744073709551615 → Calls Try.prog 28 #[gv P Q G H a n cap, .int .u64 x] wx fun e w' => e = .returned (.bool (inI P Q x)) ∧ Old wx w') := fun x wx hx => rin_any P Q G H x a n cap wx h4.q0 h4.q1 hx
  go_loopw [48] (fun iv wx => ∃ i : Nat, iv = .int .i64 (i : Int) ∧ i ≤ 9 ∧ Hid (Old w4 wx) ∧ Hid (∀ j, j < i → inI P Q (nine7 u0 u1 u2 v2 a1 a2 a3 b2 b3 j) = true)) (fun iv _ => 9 - (intOf iv).toNat)
  case atStart => exact ⟨0, rfl, Nat.zero_le _, Old.refl _, fun j hj => by omega⟩
  case round =>
    obtain ⟨i, rfl, hi, HO, HJ⟩ := hrel
    obtain ⟨⟨d0, d1, d2, d3, d4, x0, x1, x2, x3, x4, x5, t0, t1, t2, t3, t4, t5⟩, p0, p1⟩ := HT3.out _ (HW4.out.trans HO.out)
    by_cases hlt : i < 9
    · rcases HF9.out.old HO.out with h0 | ⟨bx, ox, hqx, _, hrx⟩
      · omega
      have cx := (hrx i hlt).1
      cases hqx
      rw [Nat.zero_add] at cx
      clear hrx
      have HC : Hid (∀ wx, Calls Try.prog 28 #[gv P Q G H a n cap, .int .u64 (nine7 u0 u1 u2 v2 a1 a2 a3 b2 b3 i)] wx fun e w' => e = .returned (.bool (inI P Q (nine7 u0 u1 u2 v2 a1 a2 a3 b2 b3 i))) ∧ Old wx w') := fun wx => HI.out _ wx (HN9.out i)
      have i1 : (i : Int) < 9 := by omega
      have HJ2 : Hid (inI P Q (nine7 u0 u1 u2 v2 a1 a2 a3 b2 b3 i) = true → ∀ j, j < i + 1 → inI P Q (nine7 u0 u1 u2 v2 a1 a2 a3 b2 b3 j) = true) := fun h => upto_succ HJ.out h
      generalize nine7 u0 u1 u2 v2 a1 a2 a3 b2 b3 i = xi at *
      cases he : inI P Q xi
      · rw [he] at HC
        clear he h4 hR
        go_wp2_with (go_at_call 28; refine (HC.out _).mono ?_; rintro e w5 ⟨rfl, o5⟩)
        go_ret
        exact ⟨rfl, HOw.out _ ((HW4.out.trans HO.out).trans o5)⟩
      · rw [he] at HC
        have HJ3 : Hid (∀ j, j < i + 1 → inI P Q (nine7 u0 u1 u2 v2 a1 a2 a3 b2 b3 j) = true) := HJ2.out he
        clear he h4 hR
        go_wp2_with (go_at_call 28; refine (HC.out _).mono ?_; rintro e w5 ⟨rfl, o5⟩)
        go_roundw
        case rel => exact ⟨i + 1, idx_next i, by omega, HO.out.trans o5, HJ3⟩
        case measure => simp [intOf]; omega
    · have he : i = 9 := by omega
      subst he
      have hall := HJ.out
      have H0p : Hid (∀ wx, Calls Try.prog 30 #[gv P Q G H a n cap, .int .u64 u0] wx (MadeIn wx 1 (fun _ => u0) 1 (fun _ => 1) (fun _ _ => G))) := fun wx => (pkeeps_any P Q G H a n cap u0 wx).mono fun e w' h => h.made (fun _ _ => hu0) (fun _ _ _ _ => ⟨h4.g0, h4.g1⟩)
      have H0r : Hid (∀ wx, Calls Try.prog 31 #[gv P Q G H a n cap, .int .u64 u0] wx (MadeIn wx 1 (fun _ => u0) 1 (fun _ => 1) (fun _ _ => G))) := fun wx => (rkeeps_any P Q G H a n cap u0 wx).mono fun e w' h => h.made (fun _ _ => hu0) (fun _ _ _ _ => ⟨h4.g0, h4.g1⟩)
      have H1p : Hid (∀ wx, Calls Try.prog 32 #[gv P Q G H a n cap, .agg #[.int .u64 u0, .int .u64 v0, .int .u64 u1, .int .u64 v1, .int .u64 u2, .int .u64 v2]] wx (MadeIn wx 3 (tri7 u0 u1 u2) 3 (fun _ => 3) (fun j => rowAt G j))) := fun wx => (pknows_any P Q G H a n cap u0 v0 u1 v1 u2 v2 wx).mono fun e w' h => h.made (fun j _ => u64_tri hu0 hu1 hu2 j) (fun j _ i _ => u64_rowAt ⟨h4.g0, h4.g1⟩ j i)
      have H1r : Hid (∀ wx, Calls Try.prog 33 #[gv P Q G H a n cap, .agg #[.int .u64 u0, .int .u64 v0, .int .u64 u1, .int .u64 v1, .int .u64 u2, .int .u64 v2]] wx (MadeIn wx 3 (tri7 u0 u1 u2) 3 (fun _ => 3) (fun j => rowAt G j))) := fun wx => (rknows_any P Q G H a n cap u0 v0 u1 v1 u2 v2 wx).mono fun e w' h => h.made (fun j _ => u64_tri hu0 hu1 hu2 j) (fun j _ i _ => u64_rowAt ⟨h4.g0, h4.g1⟩ j i)
      have H2p : Hid (∀ wx, Calls Try.prog 34 #[gv P Q G H a n cap, .int .u64 u0, pv u2 v2, .int .u64 u1] wx (MadeIn wx 2 (two7 u0 u1) 2 (fun _ => 1) (two7r (fun _ => G) (fun _ => u2)))) := fun wx => (pshares_any P Q G H a n cap u0 u2 v2 u1 wx).mono fun e w' h => h.made (fun j _ => u64_two hu0 hu1 j) (fun j _ i _ => u64_two7r (fun _ => ⟨h4.g0, h4.g1⟩) (fun _ => hu2) j i)
      have H2r : Hid (∀ wx, Calls Try.prog 35 #[gv P Q G H a n cap, .int .u64 u0, pv u2 v2, .int .u64 u1] wx (MadeIn wx 2 (two7 u0 u1) 2 (fun _ => 1) (two7r (fun _ => G) (fun _ => u2)))) := fun wx => (rshares_any P Q G H a n cap u0 u2 v2 u1 wx).mono fun e w' h => h.made (fun j _ => u64_two hu0 hu1 j) (fun j _ i _ => u64_two7r (fun _ => ⟨h4.g0, h4.g1⟩) (fun _ => hu2) j i)
      have H3p : Hid (∀ wx, Calls Try.prog 36 #[gv P Q G H a n cap, .int .u64 u0, .int .u64 u1, tv a1 a2 a3, tv b1 b2 b3] wx (MadeIn wx 3 (tri7 u0 (overI P b2 a2) (overI P b3 a3)) 3 (fun _ => 2) (tri7r (two7 G 1) (two7 1 G) (two7 (overI P 1 a1) u1)))) := fun wx => (pcrosses_any P Q G H a n cap u0 u1 a1 a2 a3 b1 b2 b3 wx h4 hR (hall 4 (by omega)) (hall 5 (by omega)) (hall 6 (by omega)) hb2 hb3).mono fun e w' h => h.made (fun j _ => u64_tri hu0 (u64_over _ _ _) (u64_over _ _ _) j) (fun j _ i _ => u64_tri7r (u64_two ⟨h4.g0, h4.g1⟩ ⟨by omega, by omega⟩) (u64_two ⟨by omega, by omega⟩ ⟨h4.g0, h4.g1⟩) (u64_two (u64_over _ _ _) hu1) j i)
      have H3r : Hid (∀ wx, Calls Try.prog 37 #[gv P Q G H a n cap, .int .u64 u0, .int .u64 u1, tv a1 a2 a3, tv b1 b2 b3] wx (MadeIn wx 3 (tri7 u0 (overI P b2 a2) (overI P b3 a3)) 3 (fun _ => 2) (tri7r (two7 G 1) (two7 1 G) (two7 (overI P 1 a1) u1)))) := fun wx => (rcrosses_any P Q G H a n cap u0 u1 a1 a2 a3 b1 b2 b3 wx h4 hR (hall 4 (by omega)) (hall 5 (by omega)) (hall 6 (by omega)) hb2 hb3).mono fun e w' h => h.made (fun j _ => u64_tri hu0 (u64_over _ _ _) (u64_over _ _ _) j) (fun j _ i _ => u64_tri7r (u64_two ⟨h4.g0, h4.g1⟩ ⟨by omega, by omega⟩) (u64_two ⟨by omega, by omega⟩ ⟨h4.g0, h4.g1⟩) (u64_two (u64_over _ _ _) hu1) j i)
      have HO3 : Hid (Old w3 wr) := HW4.out.trans HO.out
      clear hall h4 hR HI HF9 HN9 HJ hu0 hu1 hu2 hv2 ha1 ha2 ha3 hb2 hb3
      go_upto_region 12 with fail
      have hd : Old w3 wr.drew := HO3.out.drew
      go_region_held3 (fun w' => (w'.cell? ⟨w.heap.size, 0, none⟩ = some (.int .u64 P) ∧ w'.cell? ⟨w.heap.size, 1, none⟩ = some (.int .u64 Q) ∧ w'.cell? ⟨w.heap.size, 2, none⟩ = some (.int .u64 G) ∧ w'.cell? ⟨w.heap.size, 3, none⟩ = some (.int .u64 H) ∧ w'.cell? ⟨w.heap.size, 4, none⟩ = some (.slice a n cap) ∧ w'.cell? ⟨w.heap.size + 1, 0, none⟩ = some (.int .u64 u0) ∧ w'.cell? ⟨w.heap.size + 1, 1, none⟩ = some (.int .u64 v0) ∧ w'.cell? ⟨w.heap.size + 1, 2, none⟩ = some (.int .u64 u1) ∧ w'.cell? ⟨w.heap.size + 1, 3, none⟩ = some (.int .u64 v1) ∧ w'.cell? ⟨w.heap.size + 1, 4, none⟩ = some (.int .u64 u2) ∧ w'.cell? ⟨w.heap.size + 1, 5, none⟩ = some (.int .u64 v2) ∧ w'.cell? ⟨w.heap.size + 1 + 1, 0, none⟩ = some (.int .u64 a1) ∧ w'.cell? ⟨w.heap.size + 1 + 1, 1, none⟩ = some (.int .u64 a2) ∧ w'.cell? ⟨w.heap.size + 1 + 1, 2, none⟩ = some (.int .u64 a3) ∧ w'.cell? ⟨w.heap.size + 1 + 1, 3, none⟩ = some (.int .u64 b1) ∧ w'.cell? ⟨w.heap.size + 1 + 1, 4, none⟩ = some (.int .u64 b2) ∧ w'.cell? ⟨w.heap.size + 1 + 1, 5, none⟩ = some (.int .u64 b3)) ∧ w'.cell? ⟨pb, 0, none⟩ = some (.int .u64 u2) ∧ w'.cell? ⟨pb, 1, none⟩ = some (.int .u64 v2)) (first | exact HT3.out _ h12 | exact HT3.out _ h11 | exact HT3.out _ h10 | exact HT3.out _ h9 | exact HT3.out _ h8 | exact HT3.out _ h7 | exact HT3.out _ h6 | exact HT3.out _ h5 | exact HT3.out _ h4 | exact HT3.out _ h3 | exact HT3.out _ h2 | exact HT3.out _ h1 | exact HT3.out _ hd) (first
        | (go_at_call 29; have hg := h11; refine (ralike_any _ _ _ _ _ _ _ _ _ _ _ _ _ _ _ _ _ _ (c10.old o11) c11).mono ?_; rintro e y12 ⟨rfl, o12⟩; have h12 : Old w3 y12 := h11.trans o12)
        | (go_at_call 29; have hg := h8; refine (ralike_any _ _ _ _ _ _ _ _ _ _ _ _ _ _ _ _ _ _ (c7.old o8) c8).mono ?_; rintro e y9 ⟨rfl, o9⟩; have h9 : Old w3 y9 := h8.trans o9)
        | (go_at_call 29; have hg := h5; refine (ralike_any _ _ _ _ _ _ _ _ _ _ _ _ _ _ _ _ _ _ (c4.old o5) c5).mono ?_; rintro e y6 ⟨rfl, o6⟩; have h6 : Old w3 y6 := h5.trans o6)
        | (go_at_call 29; have hg := h2; refine (ralike_any _ _ _ _ _ _ _ _ _ _ _ _ _ _ _ _ _ _ (c1.old o2) c2).mono ?_; rintro e y3 ⟨rfl, o3⟩; have h3 : Old w3 y3 := h2.trans o3)
        | (go_at_call 30; refine (H0p.out _).mono ?_; rintro e y1 ⟨m1a, m1b, m1c, m1d, m1e, m1f, rfl, o1, c1⟩; have h1 : Old w3 y1 := hd.trans o1)
        | (go_at_call 31; refine (H0r.out _).mono ?_; rintro e y2 ⟨m2a, m2b, m2c, m2d, m2e, m2f, rfl, o2, c2⟩; have h2 : Old w3 y2 := h1.trans o2)
        | (go_at_call 32; refine (H1p.out _).mono ?_; rintro e y4 ⟨m4a, m4b, m4c, m4d, m4e, m4f, rfl, o4, c4⟩; have h4 : Old w3 y4 := h3.trans o4)
        | (go_at_call 33; refine (H1r.out _).mono ?_; rintro e y5 ⟨m5a, m5b, m5c, m5d, m5e, m5f, rfl, o5, c5⟩; have h5 : Old w3 y5 := h4.trans o5)
        | (go_at_call 34; refine (H2p.out _).mono ?_; rintro e y7 ⟨m7a, m7b, m7c, m7d, m7e, m7f, rfl, o7, c7⟩; have h7 : Old w3 y7 := h6.trans o7)
        | (go_at_call 35; refine (H2r.out _).mono ?_; rintro e y8 ⟨m8a, m8b, m8c, m8d, m8e, m8f, rfl, o8, c8⟩; have h8 : Old w3 y8 := h7.trans o8)
        | (go_at_call 36; refine (H3p.out _).mono ?_; rintro e y10 ⟨m10a, m10b, m10c, m10d, m10e, m10f, rfl, o10, c10⟩; have h10 : Old w3 y10 := h9.trans o10)
        | (go_at_call 37; refine (H3r.out _).mono ?_; rintro e y11 ⟨m11a, m11b, m11c, m11d, m11e, m11f, rfl, o11, c11⟩; have h11 : Old w3 y11 := h10.trans o11))
      go_wp2_with fail
      go_ret
      exact ⟨rfl, HOw.out _ h12⟩

end Go.Proofs.Ytokhpppealdfmaf
