/-
  What the proof needs, part 11.
-/
import Derived.Test.YtlnmjbbpenhdbaaGreatKp10
import Derived.Deep.AppendLies
import Derived.Test.YtlnmjbbpenhdbaaGreatKp05
namespace Go.Proofs.YtlnmjbbpenhdbaaGreat
set_option linter.unusedSimpArgs false
set_option linter.unusedVariables false
set_option maxRecDepth 100000
set_option maxHeartbeats 32000000
section
open Go.RowKit
theorem flat_at (C : Nat -> Nat -> Int) (j k : Nat) (hk : k < 6) : flatF C (6 * j + k) = C j k := by
 unfold flatF
 rw [show (6 * j + k) / 6 = j by omega, show (6 * j + k) % 6 = k by omega]
theorem make6_run (n : Nat) (h : n <= 1000) (w : World) : (Instr.makeSlice 29 (.int .i64 0) (.int .i64 (6 * (n : Int)))).run Tryz.prog w = .ok (.slice (some ⟨w.heap.size, 0, none⟩) 0 (6 * n)) (w.alloc (.cells (madeCells #[Value.int .u64 0] (6 * n)) 22)) := by
 obtain ⟨i, hi, hzz⟩ := Option.map_eq_some_iff.1 u64info
 simp only [Prod.mk.injEq] at hzz
 obtain ⟨hz, hs, hb⟩ := hzz
 have hr := run_make (P := Tryz.prog) w 29 22 i (.int .u64 0) Tryz.underlying29 hi hz .i64 .i64 0 (6 * (n : Int)) (Int.le_refl _) (by omega) (by rw [hb]; omega) (by omega)
 have e : (6 * (n : Int)).toNat = 6 * n := by omega
 rw [e, hs, Nat.mul_one] at hr
 exact hr
theorem nums_two {w : World} {base k : Nat} {v : Value} {F : Nat -> Int} {x y : Int} (h : w.ownsRow base 22 1 v (k + 2) ((List.range k).map (fun i => Value.int .u64 (F i)) ++ [.int .u64 x, .int .u64 y])) (hx : F k = x) (hy : F (k + 1) = y) : Nums w base v (k + 2) F := by
 unfold Nums
 rw [List.range_succ, List.range_succ, List.map_append, List.map_append]
 simpa [hx, hy] using h
theorem snumbers_any (b : Option Addr) (m c : Nat) (C : Nat -> Nat -> Int) (w : World) (hm : m <= 1000) (h : BoxsIn w b m C) :
  Calls Tryz.prog 104 #[.slice b m c] w (GivL w (6 * m) (flatF C)) := by
 obtain ⟨i0, hi0, hz0, hz1, hz2⟩ := info_parts u64info
 have HX : Hid (BoxsIn w b m C) := h
 clear h
 have hmk := make6_run m hm
 have HO0 : Hid (Nums (w.alloc (.cells (madeCells #[Value.int .u64 0] (6 * m)) 22)) w.heap.size (.slice (some ⟨w.heap.size, 0, none⟩) 0 (6 * m)) 0 (flatF C)) := World.ownsRow_made w _ (6 * m) (Nat.le_refl _) (by unfold maxLen; omega) (by rw [size_madeCells]; omega)
 have HW0 : Hid (Old w (w.alloc (.cells (madeCells #[Value.int .u64 0] (6 * m)) 22))) := (Old.refl _).alloc _
 go_enter Tryz.func104, Tryz.ntmps104
 go_upto_region 2 with fail
 generalize w.alloc (.cells (madeCells #[Value.int .u64 0] (6 * m)) 22) = W1 at *
 go_upto_region 3 with fail
 go_loopw [3, 14] (fun v iv wx => ∃ i : Nat, iv = .int .i64 (i : Int) /\ i <= m /\ Hid (Nums wx w.heap.size v (6 * i) (flatF C)) /\ Hid (Old w wx)) (fun _ iv _ => m - (intOf iv).toNat)
 case atStart => exact ⟨0, rfl, Nat.zero_le _, HO0, HW0⟩
 case round =>
  obtain ⟨i, rfl, hi, HV, HO⟩ := hrel
  by_cases hlt : i < m
  · rcases HX.out.old HO.out with h0 | ⟨bx, ox, hqx, _, hrx⟩
   · omega
   have c0 : wr.cell? ⟨bx, ox + i * 6, none⟩ = some (.int .u64 (C i 0)) := (hrx i hlt 0 (by omega)).1
   have c1 := (hrx i hlt 1 (by omega)).1
   have c2 := (hrx i hlt 2 (by omega)).1
   have c3 := (hrx i hlt 3 (by omega)).1
   have c4 := (hrx i hlt 4 (by omega)).1
   have c5 := (hrx i hlt 5 (by omega)).1
   clear hrx
   subst hqx
   have HU : Hid (∀ k, k < 3 -> flatF C (6 * i + 2 * k) = tri7 (C i 0) (C i 2) (C i 4) k /\ flatF C (6 * i + 2 * k + 1) = tri7 (C i 1) (C i 3) (C i 5) k) := fun k hk => by
    rw [flat_at C i (2 * k) (by omega), Nat.add_assoc, flat_at C i (2 * k + 1) (by omega)]
    match k, hk with
    | 0, _ => exact ⟨rfl, rfl⟩
    | 1, _ => exact ⟨rfl, rfl⟩
    | 2, _ => exact ⟨rfl, rfl⟩
   generalize C i 0 = x0 at *
   generalize C i 1 = x1 at *
   generalize C i 2 = x2 at *
   generalize C i 3 = x3 at *
   generalize C i 4 = x4 at *
   generalize C i 5 = x5 at *
   go_upto_region 5 with fail
   have HVa : Hid (Nums (wr.alloc (.cells #[.int .u64 x0, .int .u64 x1, .int .u64 x2, .int .u64 x3, .int .u64 x4, .int .u64 x5] 74)) w.heap.size u3 (6 * i) (flatF C)) := HV.out.old ((Old.refl _).alloc _)
   have HOa : Hid (Old w (wr.alloc (.cells #[.int .u64 x0, .int .u64 x1, .int .u64 x2, .int .u64 x3, .int .u64 x4, .int .u64 x5] 74))) := HO.out.alloc _
   go_upto_region 6 with fail
   generalize wr.alloc (.cells #[.int .u64 x0, .int .u64 x1, .int .u64 x2, .int .u64 x3, .int .u64 x4, .int .u64 x5] 74) = Wb at *
   go_loopw [3, 19] (fun v sv wx => ∃ k : Nat, sv = .int .i64 (k : Int) /\ k <= 3 /\ Hid (Nums wx w.heap.size v (6 * i + 2 * k) (flatF C)) /\ Hid (Old w wx)) (fun _ sv _ => 3 - (intOf sv).toNat)
   case atStart => exact ⟨0, rfl, Nat.zero_le _, HVa, HOa⟩
   case round =>
    obtain ⟨k, rfl, hk, HV2, HO2⟩ := hrel
    by_cases hkl : k < 3
    · have hU := HU.out k hkl
     have hbx := box_at x0 x1 x2 x3 x4 x5 k hkl
     generalize tri7 x0 x2 x4 k = xu at *
     generalize tri7 x1 x3 x5 k = xv at *
     have HU1 : Hid (flatF C (6 * i + 2 * k) = xu) := hU.1
     have HU2 : Hid (flatF C (6 * i + 2 * k + 1) = xv) := hU.2
     clear hU
     have k1 : (k : Int) < 3 := by omega
     go_upto_region 8 with fail
     have HVp : Hid (Nums (wr.alloc (.cells #[.int .u64 xu, .int .u64 xv] 69)) w.heap.size u3 (6 * i + 2 * k) (flatF C)) := HV2.out.old ((Old.refl _).alloc _)
     have HOp : Hid (Old w (wr.alloc (.cells #[.int .u64 xu, .int .u64 xv] 69))) := HO2.out.alloc _
     have e0 : (wr.alloc (.cells #[.int .u64 xu, .int .u64 xv] 69)).cell? ⟨wr.heap.size, 0, none⟩ = some (.int .u64 xu) := cell_of_row _ _ 0 _ _ (0, 0) (heap_alloc_last _ _)
     have e1 : (wr.alloc (.cells #[.int .u64 xu, .int .u64 xv] 69)).cell? ⟨wr.heap.size, 1, none⟩ = some (.int .u64 xv) := cell_of_row _ _ 1 _ _ (0, 0) (heap_alloc_last _ _)
     have hb : w.heap.size <= (wr.alloc (.cells #[.int .u64 xu, .int .u64 xv] 69)).heap.size := HOp.out.size
     generalize wr.heap.size = sp at *
     generalize wr.alloc (.cells #[.int .u64 xu, .int .u64 xv] 69) = Wp at *
     go_wp2_with (at_builtin; refine wpList_append_own _ rfl _ _ 29 rfl w.heap.size 22 i0 (.int .u64 0) 1 8 Tryz.underlying29 hi0 hz0 hz1 hz2 rfl (by decide) _ _ _ rfl (World.ownsRow.alloc HVp.out _) ⟨Wp.heap.size, 0, none⟩ 2 2 [.int .u64 xu, .int .u64 xv] rfl rfl ?c1 ?c2 ?c3 ?c4 ?c5 ?_)
     case c1 => exact World.news_of_block (heap_alloc_last _ _)
     case c2 => intro u hu; simp at hu; rcases hu with rfl | rfl <;> rfl
     case c3 => unfold maxLen; omega
     case c4 => omega
     case c5 => simp; omega
     intro v' w1 hown' hgrow hne
     have HV3 : Hid (Nums w1 w.heap.size v' (6 * i + 2 * (k + 1)) (flatF C)) := nums_two (k := 6 * i + 2 * k) hown' HU1.out HU2.out
     have HO3 : Hid (Old w w1) := old_app HOp.out HVp.out hgrow
     clear hown' hgrow hne
     go_wp2_with fail
     go_roundw
     case rel => exact ⟨k + 1, idx_next k, by omega, HV3, HO3⟩
     case measure => simp [intOf]; omega
    · have hk3 : k = 3 := by omega
     subst hk3
     have HV3 : Hid (Nums wr w.heap.size u3 (6 * (i + 1)) (flatF C)) := by have := HV2.out; rwa [show 6 * i + 2 * 3 = 6 * (i + 1) by omega] at this
     go_wp2_with fail
     go_roundw
     case rel => exact ⟨i + 1, idx_next i, by omega, HV3, HO2⟩
     case measure => simp [intOf]; omega
  · have he : m = i := by omega
   subst he
   go_wp2_with fail
   go_ret
   exact ⟨HO.out, _, rfl, HV.out⟩
end
section
open Go.RowKit
theorem lanswer_any : Lanswer := by
 intro P Q G H a n cap b1 n1 c1 X b2 n2 c2 Y e w h4 hr he m1 m2 mc1 mc2 h1 h2
 have HX : Hid (FacsIn w b1 n1 X) := h1
 have HY : Hid (FacsIn w b2 n2 Y) := h2
 have HZ := lain1 w (gc P Q G H a n cap) 25
 by_cases hn : n1 = n2
 · subst hn
  obtain ⟨M, hM⟩ : ∃ M : Nat -> Int, M = fun k => mulI e (X k) Q := ⟨_, rfl⟩
  obtain ⟨F, hF⟩ : ∃ F : Nat -> Int, F = fun k => ansI Q e (X k) (Y k) := ⟨_, rfl⟩
  have H1 : Hid (∀ i wx, i < n1 -> Calls Tryz.prog 72 #[.int .u64 e, .int .u64 (X i), .int .u64 Q] wx fun r w' => r = .returned (.int .u64 (M i)) /\ Old wx w') := fun i wx hi => (mul_any e (X i) Q wx he.1 he.2 (h1.u64 i hi).1 (h1.u64 i hi).2).mono fun r w' ⟨h, k⟩ => ⟨by rw [h, hM], (Old.refl _).draws k⟩
  have H2 : Hid (∀ i wx, i < n1 -> Calls Tryz.prog 71 #[.int .u64 (Y i), .int .u64 (M i), .int .u64 Q] wx fun r w' => r = .returned (.int .u64 (F i)) /\ Old wx w') := fun i wx hi => (add_any (Y i) (M i) Q wx (h2.u64 i hi).1 (h2.u64 i hi).2 (by rw [hM]; exact (u64_mul _ _ _).1) (by rw [hM]; exact (u64_mul _ _ _).2)).mono fun r w' ⟨h, k⟩ => ⟨by rw [h, hF, hM]; rfl, (Old.refl _).draws k⟩
  rw [<- hF]
  clear hF hM he h1 h2 h4 hr
  have hmk := make_run n1 m1
  go_enter Tryz.func43, Tryz.ntmps43
  go_upto_region 1 with fail
  generalize hW : w.alloc (.cells (gc P Q G H a n cap) 25) = W at *
  clear hW
  go_upto_region 4 with fail
  have HFu := full_zero W n1 F
  have HWx : Hid (Old W (W.alloc (.cells (madeCells #[Value.int .u64 0] n1) 22))) := (Old.refl W).alloc _
  have hlt0 : W.heap.size < (W.alloc (.cells (madeCells #[Value.int .u64 0] n1) 22)).heap.size := HFu.lt
  generalize W.alloc (.cells (madeCells #[Value.int .u64 0] n1) 22) = W1 at *
  go_upto_region 5 with fail
  go_loopw [22] (fun iv wx => ∃ i : Nat, iv = .int .i64 (i : Int) /\ i <= n1 /\ Hid (Full wx W.heap.size n1 (upTo i F)) /\ Hid (Old W wx)) (fun iv _ => n1 - (intOf iv).toNat)
  case atStart => exact ⟨0, rfl, Nat.zero_le _, HFu, HWx⟩
  case round =>
   obtain ⟨i, rfl, hi1, HN, HW⟩ := hrel
   by_cases hlt : i < n1
   · rcases HX.out with h0 | ⟨bx, ox, hqx, _, hrx⟩
    · omega
    rcases HY.out with h0 | ⟨by_, oy, hqy, _, hry⟩
    · omega
    have HT : Hid (∀ w', Old W w' -> w'.cell? ⟨w.heap.size, 1, none⟩ = some (.int .u64 Q) /\ w'.cell? ⟨bx, ox + i, none⟩ = some (.int .u64 (X i)) /\ w'.cell? ⟨by_, oy + i, none⟩ = some (.int .u64 (Y i))) := fun w' ho => ⟨(HZ.then ho).cell 0 1 (by simp) rfl, (HZ.old.trans ho).cellOf (hrx i hlt).1, (HZ.old.trans ho).cellOf (hry i hlt).1⟩
    clear hrx hry
    subst hqx hqy
    obtain ⟨dq, cx, cy⟩ := HT.out _ HW.out
    have HM : Hid (∀ wx, Calls Tryz.prog 72 #[.int .u64 e, .int .u64 (X i), .int .u64 Q] wx fun r w' => r = .returned (.int .u64 (M i)) /\ Old wx w') := fun wx => H1.out i wx hlt
    have HA : Hid (∀ wx, Calls Tryz.prog 71 #[.int .u64 (Y i), .int .u64 (M i), .int .u64 Q] wx fun r w' => r = .returned (.int .u64 (F i)) /\ Old wx w') := fun wx => H2.out i wx hlt
    go_upto_region 7 with fail
    go_region_held3 (fun w' => w'.cell? ⟨w.heap.size, 1, none⟩ = some (.int .u64 Q) /\ w'.cell? ⟨bx, ox + i, none⟩ = some (.int .u64 (X i)) /\ w'.cell? ⟨by_, oy + i, none⟩ = some (.int .u64 (Y i))) (first | exact HT.out _ (h5.setCell (Nat.le_refl _) _) | exact HT.out _ h5 | exact HT.out _ h4 | exact HT.out _ HW.out.drew) (first
     | (go_at_call 72; refine (HM.out _).mono ?_; rintro e w4 ⟨rfl, o4⟩; have h4 : Old W w4 := HW.out.drew.trans o4)
     | (go_at_call 71; refine (HA.out _).mono ?_; rintro e w5 ⟨rfl, o5⟩; have h5 : Old W w5 := h4.trans o5; have hful := HN.out.old (((Old.refl wr).drew.trans o4).trans o5); have q0 := hful.cell i hlt; have f0 := hful.free i))
    have HG : Hid (Full (w5.setCell ⟨W.heap.size, i, none⟩ (.int .u64 (F i))) W.heap.size n1 (upTo (i + 1) F)) := hful.next
    have HG2 : Hid (Old W (w5.setCell ⟨W.heap.size, i, none⟩ (.int .u64 (F i)))) := h5.setCell (Nat.le_refl _) _
    go_wp2_with fail
    go_roundw
    case rel => exact ⟨i + 1, idx_next i, by omega, HG, HG2⟩
    case measure => simp [intOf]; omega
   · have he : n1 = i := by omega
    subst he
    go_wp2_with fail
    go_ret2
    exact gives_yes (by simp) (HN.out.done.nums HZ.old.size (by omega)) (HZ.old.trans HW.out)
 · have k1 : ¬ (n1 : Int) = (n2 : Int) := by omega
  clear he h1 h2 h4 hr
  go_enter Tryz.func43, Tryz.ntmps43
  go_wp2_with fail
  go_ret2
  exact gives_no (by simp [hn]) ((Old.refl _).alloc _)
end
section
open Go.RowKit
def elB (P Q : Int) (n : Nat) (F : Nat -> Int) : Bool := (List.range n).all fun i => inI P Q (F i)
theorem elB_iff {P Q : Int} {n : Nat} {F : Nat -> Int} : elB P Q n F = true ↔ ∀ i, i < n -> inI P Q (F i) = true := by simp [elB]
def cntB (n : Nat) : Bool := decide (1 <= n) && decide (n <= 64)
theorem cntB_iff {n : Nat} : cntB n = true ↔ 1 <= n /\ n <= 64 := by simp [cntB]
def lensB (nt nb : Nat) (L : Nat -> Nat) : Bool := cntB nt && (decide (nb = nt) && ((List.range nb).all (fun j => decide (L j = L 0)) && cntB (L 0)))
theorem lensB_iff {nt nb : Nat} {L : Nat -> Nat} : lensB nt nb L = true ↔ (1 <= nt /\ nt <= 64) /\ nb = nt /\ (∀ j, j < nb -> L j = L 0) /\ 1 <= L 0 /\ L 0 <= 64 := by
 simp [lensB, cntB_iff]
theorem lels_any (P Q G H : Int) (a : Option Addr) (n cap : Nat) (b : Option Addr) (l c : Nat) (F : Nat -> Int) (w : World) (h4 : Four P Q G H) (hl : l <= 9223372036854775807) (h1 : FacsIn w b l F) :
  Calls Tryz.prog 97 #[gv P Q G H a n cap, .slice b l c] w fun e w' => e = .returned (.bool (elB P Q l F)) /\ Old w w' := by
 have HX : Hid (FacsIn w b l F) := h1
 have HZ := lain1 w (gc P Q G H a n cap) 25
 have HI : Hid (∀ i wx, i < l -> Calls Tryz.prog 52 #[gv P Q G H a n cap, .int .u64 (F i)] wx fun e w' => e = .returned (.bool (inI P Q (F i))) /\ Old wx w') := fun i wx hi => gin0 P Q G H (F i) a n cap wx h4.q0 h4.q1 (h1.u64 i hi).2
 clear h4 h1
 go_enter Tryz.func97, Tryz.ntmps97
 go_upto_region 1 with fail
 generalize hW : w.alloc (.cells (gc P Q G H a n cap) 25) = W at *
 clear hW
 go_upto_region 2 with fail
 go_loopw [9] (fun iv wx => ∃ i : Nat, iv = .int .i64 (i : Int) /\ i <= l /\ Hid (∀ j, j < i -> inI P Q (F j) = true) /\ Hid (Old W wx)) (fun iv _ => l - (intOf iv).toNat)
 case atStart => exact ⟨0, rfl, Nat.zero_le _, fun j hj => by omega, Old.refl _⟩
 case round =>
  obtain ⟨i, rfl, hi1, HJ, HW⟩ := hrel
  by_cases hlt : i < l
  · rcases HX.out with h0 | ⟨bx, ox, hqx, _, hrx⟩
   · omega
   have cx := (HZ.old.trans HW.out).cellOf (hrx i hlt).1
   clear hrx
   subst hqx
   have d0 := (HZ.then HW.out).cell 0 0 (by simp) rfl
   have d1 := (HZ.then HW.out).cell 0 1 (by simp) rfl
   have d2 := (HZ.then HW.out).cell 0 2 (by simp) rfl
   have d3 := (HZ.then HW.out).cell 0 3 (by simp) rfl
   have d4 := (HZ.then HW.out).cell 0 4 (by simp) rfl
   simp only [Nat.add_zero] at d0 d1 d2 d3 d4
   cases hin : inI P Q (F i) with
   | true =>
    have HM : Hid (inI P Q (F i) = true) := hin
    have HC : Hid (∀ wx, Calls Tryz.prog 52 #[gv P Q G H a n cap, .int .u64 (F i)] wx fun e w' => e = .returned (.bool true) /\ Old wx w') := fun wx => by have := HI.out i wx hlt; rwa [hin] at this
    clear hin
    go_wp2_with (go_at_call 52; refine (HC.out _).mono ?_; rintro e w1 ⟨rfl, o1⟩)
    go_roundw
    case rel => exact ⟨i + 1, idx_next i, by omega, upto_succ HJ.out HM.out, HW.out.trans o1⟩
    case measure => simp [intOf]; omega
   | false =>
    have HN : Hid (elB P Q l F = false) := no_of fun hc => by have := elB_iff.1 hc i hlt; rw [hin] at this; cases this
    have HC : Hid (∀ wx, Calls Tryz.prog 52 #[gv P Q G H a n cap, .int .u64 (F i)] wx fun e w' => e = .returned (.bool false) /\ Old wx w') := fun wx => by have := HI.out i wx hlt; rwa [hin] at this
    clear hin
    go_wp2_with (go_at_call 52; refine (HC.out _).mono ?_; rintro e w1 ⟨rfl, o1⟩)
    go_ret
    exact ⟨ret_bool HN.out.symm, (HZ.old.trans HW.out).trans o1⟩
  · have he : l = i := by omega
   subst he
   have HN : Hid (elB P Q l F = true) := elB_iff.2 HJ.out
   go_wp2_with fail
   go_ret
   exact ⟨ret_bool HN.out.symm, HZ.old.trans HW.out⟩
theorem lcount_any (n : Nat) (w : World) (hn : n <= 9223372036854775807) :
  Calls Tryz.prog 137 #[.int .i64 (n : Int)] w fun e w' => e = .returned (.bool (cntB n)) /\ w' = w := by
 by_cases h1 : 1 <= n
 · have HE : Hid (cntB n = decide (n <= 64)) := by unfold Hid cntB; simp [h1]
  by_cases h2 : n <= 64
  · have HE2 : Hid (cntB n = true) := HE.out.trans (by simp [h2])
   clear HE
   have k1 : (1 : Int) <= (n : Int) := by omega
   have k2 : (n : Int) <= 64 := by omega
   go_enter Tryz.func137, Tryz.ntmps137
   go_wp2_with fail
   go_ret
   exact ⟨ret_bool HE2.out.symm, by first | trivial | rfl⟩
  · have HE2 : Hid (cntB n = false) := HE.out.trans (by simp [h2])
   clear HE
   have k1 : (1 : Int) <= (n : Int) := by omega
   have k2 : ¬ (n : Int) <= 64 := by omega
   go_enter Tryz.func137, Tryz.ntmps137
   go_wp2_with fail
   go_ret
   exact ⟨ret_bool HE2.out.symm, by first | trivial | rfl⟩
 · have HE : Hid (cntB n = false) := by unfold Hid cntB; simp [h1]
  have k1 : ¬ (1 : Int) <= (n : Int) := by omega
  go_enter Tryz.func137, Tryz.ntmps137
  go_wp2_with fail
  go_ret
  exact ⟨ret_bool HE.out.symm, by first | trivial | rfl⟩
theorem llens_any (bt : Option Addr) (nt ct : Nat) (T : Nat -> Int) (bb : Option Addr) (nb cb : Nat) (BA : Nat -> Option Addr) (L C : Nat -> Nat) (B : Nat -> Nat -> Int) (w : World) (hcl : ClaimIn w bt nt ct T bb nb cb BA L C B) :
  Calls Tryz.prog 96 #[cv bt nt ct bb nb cb] w fun e w' => e = .returned (.bool (lensB nt nb L)) /\ Old w w' := by
 have HB : Hid (ListsIn w bb nb BA L C B) := hcl.bas
 have HZ := lain1 w (cc bt nt ct bb nb cb) 50
 have mt : nt <= 9223372036854775807 := Nat.le_trans hcl.tc hcl.tm
 have mb : nb <= 9223372036854775807 := Nat.le_trans hcl.bc hcl.bm
 clear hcl
 have z0 := HZ.cell 0 0 (by simp) rfl
 have z1 := HZ.cell 0 1 (by simp) rfl
 simp only [Nat.add_zero] at z0 z1
 cases ht : cntB nt with
 | false =>
  have HN : Hid (lensB nt nb L = false) := by unfold Hid lensB; simp [ht]
  have HC : Hid (∀ wx, Calls Tryz.prog 137 #[.int .i64 (nt : Int)] wx fun e w' => e = .returned (.bool false) /\ w' = wx) := fun wx => by have := lcount_any nt wx mt; rwa [ht] at this
  clear ht
  go_enter Tryz.func96, Tryz.ntmps96
  go_wp2_with (go_at_call 137; refine (HC.out _).mono ?_; rintro e w1 ⟨rfl, rfl⟩)
  go_ret
  exact ⟨ret_bool HN.out.symm, HZ.old⟩
 | true =>
  have HC : Hid (∀ wx, Calls Tryz.prog 137 #[.int .i64 (nt : Int)] wx fun e w' => e = .returned (.bool true) /\ w' = wx) := fun wx => by have := lcount_any nt wx mt; rwa [ht] at this
  have t1 := (cntB_iff.1 ht).1
  by_cases hn : nb = nt
  · subst hn
   have HE : Hid (lensB nb nb L = ((List.range nb).all (fun j => decide (L j = L 0)) && cntB (L 0))) := by unfold Hid lensB; simp [ht]
   clear ht
   have hB := HB.out
   rcases hB with h0 | ⟨bx, ox, hqx, _, hrx⟩
   · omega
   have HR : Hid (∀ w' j, Old w w' -> j < nb -> w'.cell? ⟨bx, ox + j, none⟩ = some (.slice (BA j) (L j) (C j)) /\ L j <= 9223372036854775807) := fun w' j ho hj => ⟨ho.cellOf (hrx j hj).1, Nat.le_trans (hrx j hj).2.1 (hrx j hj).2.2.1⟩
   clear hrx
   subst hqx
   have c0 := HR.out _ 0 HZ.old t1
   simp only [Nat.add_zero] at c0
   have m0 := c0.2
   have e0 := c0.1
   clear c0
   have HC2 : Hid (∀ wx, Calls Tryz.prog 137 #[.int .i64 (L 0 : Int)] wx fun e w' => e = .returned (.bool (cntB (L 0))) /\ w' = wx) := fun wx => lcount_any (L 0) wx m0
   generalize hl0 : L 0 = l0 at *
   have HL0 : Hid (L 0 = l0) := hl0
   clear hl0
   generalize hcb : cntB l0 = cl at *
   clear hcb
   have hpos : (0 : Int) < (nb : Int) := by omega
   go_enter Tryz.func96, Tryz.ntmps96
   go_upto_region 1 with fail
   generalize hW : w.alloc (.cells (cc bt nb ct (some ⟨bx, ox, none⟩) nb cb) 50) = W at *
   clear hW
   go_upto_region 5 with (go_at_call 137; refine (HC.out _).mono ?_; rintro e w1 ⟨rfl, rfl⟩)
   go_loopw [28] (fun iv wx => ∃ i : Nat, iv = .int .i64 (i : Int) /\ i <= nb /\ Hid (∀ j, j < i -> L j = l0) /\ Hid (Old w wx)) (fun iv _ => nb - (intOf iv).toNat)
   case atStart => exact ⟨0, rfl, Nat.zero_le _, fun j hj => by omega, HZ.old⟩
   case round =>
    obtain ⟨i, rfl, hi1, HJ, HW⟩ := hrel
    by_cases hlt : i < nb
    · obtain ⟨cx, mx⟩ := HR.out _ i HW.out hlt
     by_cases he : L i = l0
     · have HM : Hid (L i = l0) := he
      rw [he] at cx
      clear he mx
      go_wp2_with fail
      go_roundw
      case rel => exact ⟨i + 1, idx_next i, by omega, upto_succ HJ.out HM.out, HW.out⟩
      case measure => simp [intOf]; omega
     · have k1 : ¬ (L i : Int) = (l0 : Int) := by omega
      have HN : Hid (((List.range nb).all (fun j => decide (L j = l0)) && cl) = false) := no_of fun hc => by
       rw [Bool.and_eq_true] at hc
       have := List.all_eq_true.1 hc.1 i (List.mem_range.2 hlt)
       simp at this
       exact he this
      go_wp2_with fail
      go_ret
      exact ⟨by rw [HE.out]; exact ret_bool HN.out.symm, HW.out⟩
    · have he : nb = i := by omega
     have HN : Hid (((List.range nb).all (fun j => decide (L j = l0)) && cl) = cl) := by
      have : (List.range nb).all (fun j => decide (L j = l0)) = true := List.all_eq_true.2 fun j hj => by simp [HJ.out j (he ▸ List.mem_range.1 hj)]
      unfold Hid
      rw [this, Bool.true_and]
     subst he
     go_wp2_with (go_at_call 137; refine (HC2.out _).mono ?_; rintro e w1 ⟨rfl, rfl⟩)
     go_ret
     exact ⟨by rw [HE.out, HN.out]; rfl, HW.out⟩
  · have HN : Hid (lensB nt nb L = false) := by unfold Hid lensB; simp [hn]
   have k1 : ¬ (nb : Int) = (nt : Int) := by omega
   clear ht
   go_enter Tryz.func96, Tryz.ntmps96
   go_wp2_with (go_at_call 137; refine (HC.out _).mono ?_; rintro e w1 ⟨rfl, rfl⟩)
   go_ret
   exact ⟨ret_bool HN.out.symm, HZ.old⟩
end
section
open Go.RowKit
theorem sels_any (P Q G H : Int) (a : Option Addr) (n cap : Nat) (b : Option Addr) (l c : Nat) (F : Nat -> Int) (w : World) (h4 : Four P Q G H) (hl : l <= 9223372036854775807) (h1 : FacsIn w b l F) :
  Calls Tryz.prog 103 #[gv P Q G H a n cap, .slice b l c] w fun e w' => e = .returned (.bool (elB P Q l F)) /\ Old w w' := by
 have HX : Hid (FacsIn w b l F) := h1
 have HZ := lain1 w (gc P Q G H a n cap) 25
 have HI : Hid (∀ i wx, i < l -> Calls Tryz.prog 52 #[gv P Q G H a n cap, .int .u64 (F i)] wx fun e w' => e = .returned (.bool (inI P Q (F i))) /\ Old wx w') := fun i wx hi => gin0 P Q G H (F i) a n cap wx h4.q0 h4.q1 (h1.u64 i hi).2
 clear h4 h1
 go_enter Tryz.func103, Tryz.ntmps103
 go_upto_region 1 with fail
 generalize hW : w.alloc (.cells (gc P Q G H a n cap) 25) = W at *
 clear hW
 go_upto_region 2 with fail
 go_loopw [9] (fun iv wx => ∃ i : Nat, iv = .int .i64 (i : Int) /\ i <= l /\ Hid (∀ j, j < i -> inI P Q (F j) = true) /\ Hid (Old W wx)) (fun iv _ => l - (intOf iv).toNat)
 case atStart => exact ⟨0, rfl, Nat.zero_le _, fun j hj => by omega, Old.refl _⟩
 case round =>
  obtain ⟨i, rfl, hi1, HJ, HW⟩ := hrel
  by_cases hlt : i < l
  · rcases HX.out with h0 | ⟨bx, ox, hqx, _, hrx⟩
   · omega
   have cx := (HZ.old.trans HW.out).cellOf (hrx i hlt).1
   clear hrx
   subst hqx
   have d0 := (HZ.then HW.out).cell 0 0 (by simp) rfl
   have d1 := (HZ.then HW.out).cell 0 1 (by simp) rfl
   have d2 := (HZ.then HW.out).cell 0 2 (by simp) rfl
   have d3 := (HZ.then HW.out).cell 0 3 (by simp) rfl
   have d4 := (HZ.then HW.out).cell 0 4 (by simp) rfl
   simp only [Nat.add_zero] at d0 d1 d2 d3 d4
   cases hin : inI P Q (F i) with
   | true =>
    have HM : Hid (inI P Q (F i) = true) := hin
    have HC : Hid (∀ wx, Calls Tryz.prog 52 #[gv P Q G H a n cap, .int .u64 (F i)] wx fun e w' => e = .returned (.bool true) /\ Old wx w') := fun wx => by have := HI.out i wx hlt; rwa [hin] at this
    clear hin
    go_wp2_with (go_at_call 52; refine (HC.out _).mono ?_; rintro e w1 ⟨rfl, o1⟩)
    go_roundw
    case rel => exact ⟨i + 1, idx_next i, by omega, upto_succ HJ.out HM.out, HW.out.trans o1⟩
    case measure => simp [intOf]; omega
   | false =>
    have HN : Hid (elB P Q l F = false) := no_of fun hc => by have := elB_iff.1 hc i hlt; rw [hin] at this; cases this
    have HC : Hid (∀ wx, Calls Tryz.prog 52 #[gv P Q G H a n cap, .int .u64 (F i)] wx fun e w' => e = .returned (.bool false) /\ Old wx w') := fun wx => by have := HI.out i wx hlt; rwa [hin] at this
    clear hin
    go_wp2_with (go_at_call 52; refine (HC.out _).mono ?_; rintro e w1 ⟨rfl, o1⟩)
    go_ret
    exact ⟨ret_bool HN.out.symm, (HZ.old.trans HW.out).trans o1⟩
  · have he : l = i := by omega
   subst he
   have HN : Hid (elB P Q l F = true) := elB_iff.2 HJ.out
   go_wp2_with fail
   go_ret
   exact ⟨ret_bool HN.out.symm, HZ.old.trans HW.out⟩
end
section
open Go.RowKit
def batB (P Q : Int) (n : Nat) (C : Nat -> Nat -> Int) : Bool := cnt8 n && elB P Q (6 * n) (flatF C)
theorem batB_iff {P Q : Int} {n : Nat} {C : Nat -> Nat -> Int} : batB P Q n C = true ↔ (1 <= n /\ n <= 8) /\ ∀ j, j < n -> ∀ k, k < 6 -> inI P Q (C j k) = true := by
 unfold batB
 rw [Bool.and_eq_true_iff, cnt8_iff, elB_iff]
 refine and_congr_right fun _ => ⟨fun h j hj k hk => ?_, fun h i hi => h _ (by omega) _ (Nat.mod_lt _ (by omega))⟩
 have := h (6 * j + k) (by omega)
 rwa [flat_at C j k hk] at this
theorem flat_u64 {w : World} {b : Option Addr} {n : Nat} {C : Nat -> Nat -> Int} (h : BoxsIn w b n C) : ∀ i, i < 6 * n -> U64 (flatF C i) := fun i hi => h.u64 (by omega) (Nat.mod_lt _ (by omega))
def numL8 (base k : Nat) (F : Nat -> Int) : Ent := .u (fun v w => Nums w base v k F) fun _ _ _ h ho => h.old ho
theorem sbatch_any (P Q G H : Int) (a : Option Addr) (n cap : Nat) (b : Option Addr) (m c : Nat) (C : Nat -> Nat -> Int) (w : World) (h4 : Four P Q G H) (hm : m <= 1000) (h : BoxsIn w b m C) :
  Calls Tryz.prog 51 #[gv P Q G H a n cap, .slice b m c] w (Ret w (.bool (batB P Q m C))) := by
 have HZ := lain1 w (gc P Q G H a n cap) 25
 have HG0 := fun w' ho => (HZ.then (W' := w') ho).row 0 (by simp)
 have HW0 : Hid (Old w (w.alloc (.cells (gc P Q G H a n cap) 25))) := HZ.old
 have HCn : Hid (∀ wx, Calls Tryz.prog 102 #[.int .i64 (m : Int)] wx (Ret wx (.bool (cnt8 m)))) := fun wx => (scount_any m wx (by omega)).mono fun e w' ⟨h, k⟩ => ⟨h, k ▸ Old.refl _⟩
 clear HZ
 cases hc : cnt8 m with
 | true =>
  rw [hc] at HCn
  go_enter Tryz.func51, Tryz.ntmps51
  go_upto_region 1 with fail
  generalize w.alloc (.cells (gc P Q G H a n cap) 25) = W at *
  have HG : ∀ wx, Old W wx -> wx.heap[w.heap.size]? = some (.cells (gc P Q G H a n cap) 25 (0, 0)) := HG0
  refine wp_region_tab 10 [.k (.slice b m c), .k (.int .i64 (m : Nat)), .k (.bool true), .k (.bool true), .k (gv P Q G H a n cap), .k (.slice b m c), numL8 W.heap.size (6 * m) (flatF C), .k (.bool (elB P Q (6 * m) (flatF C))), .k (.bool (elB P Q (6 * m) (flatF C))), .k (.bool (elB P Q (6 * m) (flatF C)))] (Old W) (by kernel_rfl) (by kernel_rfl) rfl ((Old.refl _).drew) ?st ?_
  case st =>
   refine .c stp <| .c stp <| .c (stK old_R Tryz.func102 (fun wx _ => HCn.out wx)) <| .c stp <| .c (sts Tryz.underlying25 HG) <| .c stp <| .c (stC (args := fun t => #[.slice b m c]) old_R Tryz.func104 (fun t wx hR _ => (snumbers_any b m c C wx hm (h.old (HW0.out.trans hR))).mono fun r w' ⟨ho, v, hr, hN⟩ => ⟨v, hr, ho, hN.mono hR.size⟩)) <| .c (stC (args := fun t => #[gv P Q G H a n cap, t 6]) old_R Tryz.func103 fun t wx hR hd => ?_) <| .c stp <| .c stp .n
   have hN : Nums wx W.heap.size (t 6) (6 * m) (flatF C) := hd 6 (by kernel_rfl)
   obtain ⟨b', c', e, _, hf⟩ := hN.facs (flat_u64 h)
   rw [e]
   exact (sels_any P Q G H a n cap b' (6 * m) c' (flatF C) wx h4 (by omega) hf).mono fun r w' ⟨h, k⟩ => ⟨_, h, k, rfl⟩
  intro t wx hR hk
  simp only [fill, Ent.val, numL8, List.set_cons_zero, List.set_cons_succ, List.drop_succ_cons, List.drop_zero, List.drop_nil]
  go_wp2_with fail
  go_ret
  exact ⟨by unfold batB; rw [hc]; rfl, HW0.out.trans hR⟩
 | false =>
  rw [hc] at HCn
  go_enter Tryz.func51, Tryz.ntmps51
  go_upto_region 1 with fail
  generalize w.alloc (.cells (gc P Q G H a n cap) 25) = W at *
  have HG : ∀ wx, Old W wx -> wx.heap[w.heap.size]? = some (.cells (gc P Q G H a n cap) 25 (0, 0)) := HG0
  refine wp_region_tab 10 [.k (.slice b m c), .k (.int .i64 (m : Nat)), .k (.bool false), .k (.bool false), .k undef, .k undef, .k undef, .k undef, .k (.bool false), .k (.bool false)] (Old W) (by kernel_rfl) (by kernel_rfl) rfl ((Old.refl _).drew) ?st ?_
  case st =>
   refine .c stp <| .c stp <| .c (stK old_R Tryz.func102 (fun wx _ => HCn.out wx)) <| .c stp <| .c stn <| .c stn <| .c stn <| .c stn <| .c stp <| .c stp .n
  intro t wx hR hk
  simp only [fill, Ent.val, List.set_cons_zero, List.set_cons_succ, List.drop_succ_cons, List.drop_zero, List.drop_nil]
  go_wp2_with fail
  go_ret
  exact ⟨by unfold batB; rw [hc]; rfl, HW0.out.trans hR⟩
end
section
open Go.RowKit
def mixC (P Q G y : Int) (C : Nat -> Nat -> Int) (O : Nat -> Int) (R : Nat -> Nat -> Int) : Nat -> Nat -> Int := fun i k => if k % 2 = 0 then mulI (C (O i).toNat k) (expI P Q G (R i (k / 2))) P else mulI (C (O i).toNat k) (expI P Q y (R i (k / 2))) P
theorem mixC_u64 (P Q G y : Int) (C : Nat -> Nat -> Int) (O : Nat -> Int) (R : Nat -> Nat -> Int) (i k : Nat) : U64 (mixC P Q G y C O R i k) := by
 unfold mixC
 split <;> exact u64_mul _ _ _
def mixB (P Q y : Int) (m : Nat) (C : Nat -> Nat -> Int) (no : Nat) (O : Nat -> Int) (nρ : Nat) : Bool := decide (no = m) && (decide (nρ = m) && (ordB no O && (batB P Q m C && inI P Q y)))
def BoxF (w : World) (a : Option Addr) (n : Nat) (C : Nat -> Nat -> Int) : Prop :=
 n = 0 ∨ ∃ b cs, a = some ⟨b, 0, none⟩ /\ w.heap[b]? = some (.cells cs 74 (0, 0)) /\ ∀ j, j < n -> ∀ k, k < 6 -> cs[j * 6 + k]? = some (.int .u64 (C j k)) /\ U64 (C j k)
theorem BoxF.boxs {w : World} {a : Option Addr} {n : Nat} {C : Nat -> Nat -> Int} (h : BoxF w a n C) : BoxsIn w a n C := by
 rcases h with h | ⟨b, cs, rfl, hb, hr⟩
 · exact Or.inl h
 · exact Or.inr ⟨b, 0, rfl, (Array.getElem?_eq_some_iff.1 hb).1, fun j hj k hk => ⟨by rw [Nat.zero_add, cell_of_row _ _ (j * 6 + k) _ _ (0, 0) hb]; exact (hr j hj k hk).1, (hr j hj k hk).2⟩⟩
theorem BoxF.old {w w' : World} {a : Option Addr} {n : Nat} {C : Nat -> Nat -> Int} (h : BoxF w a n C) (ho : Old w w') : BoxF w' a n C := by
 rcases h with h | ⟨b, cs, rfl, hb, hr⟩
 · exact Or.inl h
 · exact Or.inr ⟨b, cs, rfl, (ho.block _ (Array.getElem?_eq_some_iff.1 hb).1).trans hb, hr⟩
def GivB (w : World) (ok : Bool) (m : Nat) (C : Nat -> Nat -> Int) (r : Ending) (w' : World) : Prop := Old w w' /\ ∃ a, r = .returned (.tuple #[.slice a (if ok then m else 0) (if ok then m else 0), .bool ok]) /\ BoxF w' a (if ok then m else 0) C
theorem givB_no {w w' : World} {ok : Bool} {m : Nat} {C : Nat -> Nat -> Int} (hok : ok = false) (ho : Old w w') : GivB w ok m C (.returned (.tuple #[.slice none 0 0, .bool false])) w' := by
 subst hok
 exact ⟨ho, none, rfl, Or.inl rfl⟩
def bxV (p : Nat) (C : Nat -> Nat -> Int) : Nat -> Value := fun q => .int .u64 (upTo p (flatF C) q)
theorem boxinfo : (Tryz.prog.info? 74).map (fun i => (i.zero, i.size, i.bytes)) = some (some (.agg #[.int .u64 0, .int .u64 0, .int .u64 0, .int .u64 0, .int .u64 0, .int .u64 0]), 6, 48) := by kernel_rfl
theorem makeb_run (m : Nat) (h : m <= 80) (w : World) : (Instr.makeSlice 26 (.int .i64 (m : Int)) (.int .i64 (m : Int))).run Tryz.prog w = .ok (.slice (some ⟨w.heap.size, 0, none⟩) m m) (w.alloc (.cells (madeCells #[Value.int .u64 0, Value.int .u64 0, Value.int .u64 0, Value.int .u64 0, Value.int .u64 0, Value.int .u64 0] (m * 6)) 74)) := by
 obtain ⟨i, hi, hzz⟩ := Option.map_eq_some_iff.1 boxinfo
 simp only [Prod.mk.injEq] at hzz
 obtain ⟨hz, hs, hb⟩ := hzz
 have hr := run_make (P := Tryz.prog) w 26 74 i _ Tryz.underlying26 hi hz .i64 .i64 (m : Int) (m : Int) (by omega) (Int.le_refl _) (by rw [hb]; omega) (by omega)
 rw [Int.toNat_natCast, hs] at hr
 exact hr
theorem fulV_boxs {w : World} {b m : Nat} {C : Nat -> Nat -> Int} (h : FulV w b (m * 6) 74 (bxV (m * 6) C)) (hC : ∀ i k, U64 (C i k)) : BoxF w (some ⟨b, 0, none⟩) m C := Or.inr ⟨b, _, rfl, h, fun j hj k hk => ⟨by
 rw [List.getElem?_toArray, List.getElem?_map, List.getElem?_range (by omega)]
 show some (bxV (m * 6) C (j * 6 + k)) = _
 unfold bxV upTo
 rw [if_pos (by omega), show j * 6 + k = 6 * j + k by omega, flat_at C j k hk], hC _ _⟩⟩
theorem bxV_next {w : World} {b m p : Nat} {C : Nat -> Nat -> Int} {x z : Int} (h : FulV w b (m * 6) 74 (bxV p C)) (hx : flatF C p = x) (hz : flatF C (p + 1) = z) : FulV ((w.setCell ⟨b, p, none⟩ (.int .u64 x)).setCell ⟨b, p + 1, none⟩ (.int .u64 z)) b (m * 6) 74 (bxV (p + 2) C) :=
 ((h.set p (.int .u64 x)).set (p + 1) (.int .u64 z)).congr fun k hk => by
  unfold bxV upTo
  by_cases h1 : k = p + 1
  · rw [if_pos h1, if_pos (by omega), h1, hz]
  · rw [if_neg h1]
   by_cases h2 : k = p
   · rw [if_pos h2, if_pos (by omega), h2, hx]
   · rw [if_neg h2]
    by_cases h3 : k < p
    · rw [if_pos h3, if_pos (by omega)]
    · rw [if_neg h3, if_neg (by omega)]
theorem smix_any (P Q G H : Int) (a : Option Addr) (n cap : Nat) (y : Int) (bi : Option Addr) (m ci : Nat) (C : Nat -> Nat -> Int) (bo : Option Addr) (no co : Nat) (O : Nat -> Int) (bρ : Option Addr) (nρ cρ : Nat) (R : Nat -> Nat -> Int) (w : World) (h4 : Four P Q G H) (hr : Righ P Q G) (hy : U64 y) (mm : m <= 80) (mo : no <= 80) (mρ : nρ <= 80) (hC : BoxsIn w bi m C) (hO : IntsIn w bo no O) (hR : RhoIn w bρ nρ R) :
  Calls Tryz.prog 15 #[gv P Q G H a n cap, .int .u64 y, .slice bi m ci, .slice bo no co, .slice bρ nρ cρ] w (GivB w (mixB P Q y m C no O nρ) m (mixC P Q G y C O R)) := by
 have HX : Hid (IntsIn w bo no O) := hO
 have HCx : Hid (BoxsIn w bi m C) := hC
 have HRx : Hid (RhoIn w bρ nρ R) := hR
 have HZ := lain1 w (gc P Q G H a n cap) 25
 have HG0 := fun w' ho => (HZ.then (W' := w') ho).row 0 (by simp)
 have HW0 : Hid (Old w (w.alloc (.cells (gc P Q G H a n cap) 25))) := HZ.old
 have HOr : Hid (∀ wx, Old w wx -> Calls Tryz.prog 50 #[.slice bo no co] wx (Ret wx (.bool (ordB no O)))) := fun wx ho => sorder_any bo no co O wx (by omega) (hO.old ho)
 have HBa : Hid (∀ wx, Old w wx -> Calls Tryz.prog 51 #[gv P Q G H a n cap, .slice bi m ci] wx (Ret wx (.bool (batB P Q m C)))) := fun wx ho => sbatch_any P Q G H a n cap bi m ci C wx h4 (by omega) (hC.old ho)
 have HIn : Hid (∀ wx, Calls Tryz.prog 52 #[gv P Q G H a n cap, .int .u64 y] wx (Ret wx (.bool (inI P Q y)))) := fun wx => gin0 P Q G H y a n cap wx h4.q0 h4.q1 hy.2
 have hcases : no ≠ m ∨ (no = m /\ nρ ≠ m) ∨ (no = m /\ nρ = m /\ ordB no O = false) ∨ (no = m /\ nρ = m /\ ordB no O = true /\ batB P Q m C = false) ∨ (no = m /\ nρ = m /\ ordB no O = true /\ batB P Q m C = true /\ inI P Q y = false) ∨ (no = m /\ nρ = m /\ ordB no O = true /\ batB P Q m C = true /\ inI P Q y = true) := by
  by_cases h1 : no = m
  · by_cases h2 : nρ = m
   · cases h3 : ordB no O
    · exact Or.inr (Or.inr (Or.inl ⟨h1, h2, rfl⟩))
    · cases h5 : batB P Q m C
     · exact Or.inr (Or.inr (Or.inr (Or.inl ⟨h1, h2, rfl, rfl⟩)))
     · cases h6 : inI P Q y
      · exact Or.inr (Or.inr (Or.inr (Or.inr (Or.inl ⟨h1, h2, rfl, rfl, rfl⟩))))
      · exact Or.inr (Or.inr (Or.inr (Or.inr (Or.inr ⟨h1, h2, rfl, rfl, rfl⟩))))
   · exact Or.inr (Or.inl ⟨h1, h2⟩)
  · exact Or.inl h1
 rcases hcases with h1 | ⟨h1, h2⟩ | ⟨h1, h2, h3⟩ | ⟨h1, h2, h3, h5⟩ | ⟨h1, h2, h3, h5, h6⟩ | ⟨h1, h2, h3, h5, h6⟩
 · have k1 : ((no : Int) != (m : Int)) = true := by simp; omega
  have k2 : ¬ (no : Int) = (m : Int) := by omega
  have HN : Hid (mixB P Q y m C no O nρ = false) := by unfold Hid mixB; simp [h1]
  clear hC hO hR h4 hr
  go_enter Tryz.func15, Tryz.ntmps15
  go_upto_region 1 with fail
  generalize w.alloc (.cells (gc P Q G H a n cap) 25) = W at *
  have HG : Hid (∀ wx, Old W wx -> wx.heap[w.heap.size]? = some (.cells (gc P Q G H a n cap) 25 (0, 0))) := HG0
  go_wp2_with (first
   | (go_at_call 50; refine (HOr.out _ HW0.out).mono ?_; rintro e w1 ⟨rfl, o1⟩; have g1 := HG.out _ o1; have d0 := cell_of_row _ _ 0 _ _ (0, 0) g1; have d1 := cell_of_row _ _ 1 _ _ (0, 0) g1; have d2 := cell_of_row _ _ 2 _ _ (0, 0) g1; have d3 := cell_of_row _ _ 3 _ _ (0, 0) g1; have d4 := cell_of_row _ _ 4 _ _ (0, 0) g1; clear g1)
   | (go_at_call 51; refine (HBa.out _ (HW0.out.trans o1)).mono ?_; rintro e w2 ⟨rfl, o2⟩; have g2 := HG.out _ (o1.trans o2); have d5 := cell_of_row _ _ 0 _ _ (0, 0) g2; have d6 := cell_of_row _ _ 1 _ _ (0, 0) g2; have d7 := cell_of_row _ _ 2 _ _ (0, 0) g2; have d8 := cell_of_row _ _ 3 _ _ (0, 0) g2; have d9 := cell_of_row _ _ 4 _ _ (0, 0) g2; clear g2)
   | (go_at_call 52; refine (HIn.out _).mono ?_; rintro e w3 ⟨rfl, o3⟩))
  go_ret2
  exact givB_no HN.out HW0.out
 · have k0 : ((no : Int) != (m : Int)) = false := by simp; omega
  have k1 : ((nρ : Int) != (m : Int)) = true := by simp; omega
  have k2 : ¬ (nρ : Int) = (m : Int) := by omega
  have HN : Hid (mixB P Q y m C no O nρ = false) := by unfold Hid mixB; simp [h2]
  clear hC hO hR h4 hr
  go_enter Tryz.func15, Tryz.ntmps15
  go_upto_region 1 with fail
  generalize w.alloc (.cells (gc P Q G H a n cap) 25) = W at *
  have HG : Hid (∀ wx, Old W wx -> wx.heap[w.heap.size]? = some (.cells (gc P Q G H a n cap) 25 (0, 0))) := HG0
  go_wp2_with (first
   | (go_at_call 50; refine (HOr.out _ HW0.out).mono ?_; rintro e w1 ⟨rfl, o1⟩; have g1 := HG.out _ o1; have d0 := cell_of_row _ _ 0 _ _ (0, 0) g1; have d1 := cell_of_row _ _ 1 _ _ (0, 0) g1; have d2 := cell_of_row _ _ 2 _ _ (0, 0) g1; have d3 := cell_of_row _ _ 3 _ _ (0, 0) g1; have d4 := cell_of_row _ _ 4 _ _ (0, 0) g1; clear g1)
   | (go_at_call 51; refine (HBa.out _ (HW0.out.trans o1)).mono ?_; rintro e w2 ⟨rfl, o2⟩; have g2 := HG.out _ (o1.trans o2); have d5 := cell_of_row _ _ 0 _ _ (0, 0) g2; have d6 := cell_of_row _ _ 1 _ _ (0, 0) g2; have d7 := cell_of_row _ _ 2 _ _ (0, 0) g2; have d8 := cell_of_row _ _ 3 _ _ (0, 0) g2; have d9 := cell_of_row _ _ 4 _ _ (0, 0) g2; clear g2)
   | (go_at_call 52; refine (HIn.out _).mono ?_; rintro e w3 ⟨rfl, o3⟩))
  go_ret2
  exact givB_no HN.out HW0.out
 · subst h2
  subst h1
  rw [h3] at HOr
  have HN : Hid (mixB P Q y no C no O no = false) := by unfold Hid mixB; simp [h3]
  clear hC hO hR h4 hr h3
  go_enter Tryz.func15, Tryz.ntmps15
  go_upto_region 1 with fail
  generalize w.alloc (.cells (gc P Q G H a n cap) 25) = W at *
  have HG : Hid (∀ wx, Old W wx -> wx.heap[w.heap.size]? = some (.cells (gc P Q G H a n cap) 25 (0, 0))) := HG0
  go_wp2_with (first
   | (go_at_call 50; refine (HOr.out _ HW0.out).mono ?_; rintro e w1 ⟨rfl, o1⟩; have g1 := HG.out _ o1; have d0 := cell_of_row _ _ 0 _ _ (0, 0) g1; have d1 := cell_of_row _ _ 1 _ _ (0, 0) g1; have d2 := cell_of_row _ _ 2 _ _ (0, 0) g1; have d3 := cell_of_row _ _ 3 _ _ (0, 0) g1; have d4 := cell_of_row _ _ 4 _ _ (0, 0) g1; clear g1)
   | (go_at_call 51; refine (HBa.out _ (HW0.out.trans o1)).mono ?_; rintro e w2 ⟨rfl, o2⟩; have g2 := HG.out _ (o1.trans o2); have d5 := cell_of_row _ _ 0 _ _ (0, 0) g2; have d6 := cell_of_row _ _ 1 _ _ (0, 0) g2; have d7 := cell_of_row _ _ 2 _ _ (0, 0) g2; have d8 := cell_of_row _ _ 3 _ _ (0, 0) g2; have d9 := cell_of_row _ _ 4 _ _ (0, 0) g2; clear g2)
   | (go_at_call 52; refine (HIn.out _).mono ?_; rintro e w3 ⟨rfl, o3⟩))
  go_ret2
  exact givB_no HN.out (HW0.out.trans o1)
 · subst h2
  subst h1
  rw [h3] at HOr
  rw [h5] at HBa
  have HN : Hid (mixB P Q y no C no O no = false) := by unfold Hid mixB; simp [h5]
  clear hC hO hR h4 hr h3 h5
  go_enter Tryz.func15, Tryz.ntmps15
  go_upto_region 1 with fail
  generalize w.alloc (.cells (gc P Q G H a n cap) 25) = W at *
  have HG : Hid (∀ wx, Old W wx -> wx.heap[w.heap.size]? = some (.cells (gc P Q G H a n cap) 25 (0, 0))) := HG0
  go_wp2_with (first
   | (go_at_call 50; refine (HOr.out _ HW0.out).mono ?_; rintro e w1 ⟨rfl, o1⟩; have g1 := HG.out _ o1; have d0 := cell_of_row _ _ 0 _ _ (0, 0) g1; have d1 := cell_of_row _ _ 1 _ _ (0, 0) g1; have d2 := cell_of_row _ _ 2 _ _ (0, 0) g1; have d3 := cell_of_row _ _ 3 _ _ (0, 0) g1; have d4 := cell_of_row _ _ 4 _ _ (0, 0) g1; clear g1)
   | (go_at_call 51; refine (HBa.out _ (HW0.out.trans o1)).mono ?_; rintro e w2 ⟨rfl, o2⟩; have g2 := HG.out _ (o1.trans o2); have d5 := cell_of_row _ _ 0 _ _ (0, 0) g2; have d6 := cell_of_row _ _ 1 _ _ (0, 0) g2; have d7 := cell_of_row _ _ 2 _ _ (0, 0) g2; have d8 := cell_of_row _ _ 3 _ _ (0, 0) g2; have d9 := cell_of_row _ _ 4 _ _ (0, 0) g2; clear g2)
   | (go_at_call 52; refine (HIn.out _).mono ?_; rintro e w3 ⟨rfl, o3⟩))
  go_ret2
  exact givB_no HN.out ((HW0.out.trans o1).trans o2)
 · subst h2
  subst h1
  rw [h3] at HOr
  rw [h5] at HBa
  rw [h6] at HIn
  have HN : Hid (mixB P Q y no C no O no = false) := by unfold Hid mixB; simp [h6]
  clear hC hO hR h4 hr h3 h5 h6
  go_enter Tryz.func15, Tryz.ntmps15
  go_upto_region 1 with fail
  generalize w.alloc (.cells (gc P Q G H a n cap) 25) = W at *
  have HG : Hid (∀ wx, Old W wx -> wx.heap[w.heap.size]? = some (.cells (gc P Q G H a n cap) 25 (0, 0))) := HG0
  go_wp2_with (first
   | (go_at_call 50; refine (HOr.out _ HW0.out).mono ?_; rintro e w1 ⟨rfl, o1⟩; have g1 := HG.out _ o1; have d0 := cell_of_row _ _ 0 _ _ (0, 0) g1; have d1 := cell_of_row _ _ 1 _ _ (0, 0) g1; have d2 := cell_of_row _ _ 2 _ _ (0, 0) g1; have d3 := cell_of_row _ _ 3 _ _ (0, 0) g1; have d4 := cell_of_row _ _ 4 _ _ (0, 0) g1; clear g1)
   | (go_at_call 51; refine (HBa.out _ (HW0.out.trans o1)).mono ?_; rintro e w2 ⟨rfl, o2⟩; have g2 := HG.out _ (o1.trans o2); have d5 := cell_of_row _ _ 0 _ _ (0, 0) g2; have d6 := cell_of_row _ _ 1 _ _ (0, 0) g2; have d7 := cell_of_row _ _ 2 _ _ (0, 0) g2; have d8 := cell_of_row _ _ 3 _ _ (0, 0) g2; have d9 := cell_of_row _ _ 4 _ _ (0, 0) g2; clear g2)
   | (go_at_call 52; refine (HIn.out _).mono ?_; rintro e w3 ⟨rfl, o3⟩))
  go_ret2
  exact givB_no HN.out (((HW0.out.trans o1).trans o2).trans o3)
 · subst h2
  subst h1
  rw [h3] at HOr
  rw [h5] at HBa
  rw [h6] at HIn
  have HOk : mixB P Q y no C no O no = true := by unfold mixB; simp [h3, h5, h6]
  rw [HOk]
  have HPo : Hid (OrdP no O) := ordB_iff.1 h3
  have HBi : Hid (∀ j, j < no -> ∀ k, k < 6 -> inI P Q (C j k) = true) := (batB_iff.1 h5).2
  have H4 : Hid (Four P Q G H) := h4
  have HRi : Hid (Righ P Q G) := hr
  have HIy : Hid (inI P Q y = true) := h6
  obtain ⟨D, hD⟩ : ∃ D : Nat -> Nat -> Int, D = mixC P Q G y C O R := ⟨_, rfl⟩
  have HDe : Hid (D = mixC P Q G y C O R) := hD
  rw [<- hD]
  clear hD HOk hC hO hR h4 hr h3 h5 h6
  have hmk := makeb_run no mo
  have HF0 : ∀ wx : World, Hid (FulV (wx.alloc (.cells (madeCells #[Value.int .u64 0, Value.int .u64 0, Value.int .u64 0, Value.int .u64 0, Value.int .u64 0, Value.int .u64 0] (no * 6)) 74)) wx.heap.size (no * 6) 74 (bxV 0 D)) := fun wx => fulV_new6 wx (no * 6) _ (.int .u64 0) _ fun k _ => by simp [bxV, upTo]
  go_enter Tryz.func15, Tryz.ntmps15
  go_upto_region 1 with fail
  generalize w.alloc (.cells (gc P Q G H a n cap) 25) = W at *
  have HG : Hid (∀ wx, Old W wx -> wx.heap[w.heap.size]? = some (.cells (gc P Q G H a n cap) 25 (0, 0))) := HG0
  clear HG0
  go_upto_region 4 with (first
   | (go_at_call 50; refine (HOr.out _ HW0.out).mono ?_; rintro e w1 ⟨rfl, o1⟩; have g1 := HG.out _ o1; have d0 := cell_of_row _ _ 0 _ _ (0, 0) g1; have d1 := cell_of_row _ _ 1 _ _ (0, 0) g1; have d2 := cell_of_row _ _ 2 _ _ (0, 0) g1; have d3 := cell_of_row _ _ 3 _ _ (0, 0) g1; have d4 := cell_of_row _ _ 4 _ _ (0, 0) g1; clear g1)
   | (go_at_call 51; refine (HBa.out _ (HW0.out.trans o1)).mono ?_; rintro e w2 ⟨rfl, o2⟩; have g2 := HG.out _ (o1.trans o2); have d5 := cell_of_row _ _ 0 _ _ (0, 0) g2; have d6 := cell_of_row _ _ 1 _ _ (0, 0) g2; have d7 := cell_of_row _ _ 2 _ _ (0, 0) g2; have d8 := cell_of_row _ _ 3 _ _ (0, 0) g2; have d9 := cell_of_row _ _ 4 _ _ (0, 0) g2; clear g2)
   | (go_at_call 52; refine (HIn.out _).mono ?_; rintro e w3 ⟨rfl, o3⟩))
  have HW3 : Hid (Old W w3) := (o1.trans o2).trans o3
  clear o1 o2 o3 d0 d1 d2 d3 d4 d5 d6 d7 d8 d9
  go_upto_region 5 with fail
  have HF1 := HF0 w3
  have HW4 : Hid (Old W (w3.alloc (.cells (madeCells #[Value.int .u64 0, Value.int .u64 0, Value.int .u64 0, Value.int .u64 0, Value.int .u64 0, Value.int .u64 0] (no * 6)) 74))) := HW3.out.alloc _
  have hs3 := HW3.out.size
  generalize w3.alloc (.cells (madeCells #[Value.int .u64 0, Value.int .u64 0, Value.int .u64 0, Value.int .u64 0, Value.int .u64 0, Value.int .u64 0] (no * 6)) 74) = W4 at *
  generalize w3.heap.size = bl at *
  clear HF0 hmk
  go_upto_region 6 with fail
  go_loopw [51] (fun iv wx => ∃ i : Nat, iv = .int .i64 (i : Int) /\ i <= no /\ Hid (FulV wx bl (no * 6) 74 (bxV (i * 6) D)) /\ Hid (Old W wx)) (fun iv _ => no - (intOf iv).toNat)
  case atStart => exact ⟨0, rfl, Nat.zero_le _, by rw [Nat.zero_mul]; exact HF1, HW4⟩
  case round =>
   obtain ⟨i, rfl, hi, HN, HO⟩ := hrel
   by_cases hlt : i < no
   · rcases HX.out with h0 | ⟨bx, ox, hqx, _, hrx⟩
    · omega
    have cx := (HW0.out.trans HO.out).cellOf (hrx i hlt).1
    have hp := HPo.out.2.1 i hlt
    obtain ⟨p, hpe⟩ : ∃ p : Nat, O i = (p : Int) := ⟨(O i).toNat, by omega⟩
    have HPe : Hid ((O i).toNat = p) := by unfold Hid; omega
    rw [hpe] at cx hp
    have hpn : p < no := by omega
    clear hpe hp hrx
    subst hqx
    rcases HCx.out with h0 | ⟨bc, oc, hqc, _, hrc⟩
    · omega
    have hcc : ∀ k, k < 6 -> wr.cell? ⟨bc, oc + p * 6 + k, none⟩ = some (.int .u64 (C p k)) /\ U64 (C p k) := fun k hk => ⟨(HW0.out.trans HO.out).cellOf (hrc p hpn k hk).1, (hrc p hpn k hk).2⟩
    have c0 : wr.cell? ⟨bc, oc + p * 6, none⟩ = some (.int .u64 (C p 0)) := (hcc 0 (by omega)).1
    have c1 := (hcc 1 (by omega)).1
    have c2 := (hcc 2 (by omega)).1
    have c3 := (hcc 3 (by omega)).1
    have c4 := (hcc 4 (by omega)).1
    have c5 := (hcc 5 (by omega)).1
    have HCu : Hid (∀ k, k < 6 -> U64 (C p k)) := fun k hk => (hcc k hk).2
    have HCb : Hid (FulV wr bl (no * 6) 74 (bxV (i * 6) D)) := HN
    clear hrc hcc
    subst hqc
    go_upto_region 9 with fail
    clear c0 c1 c2 c3 c4 c5 cx
    go_loopw [60] (fun iv wx => ∃ k : Nat, iv = .int .i64 (k : Int) /\ k <= 3 /\ Hid (FulV wx bl (no * 6) 74 (bxV (i * 6 + k * 2) D)) /\ Hid (Old W wx)) (fun iv _ => 3 - (intOf iv).toNat)
    case atStart => exact ⟨0, rfl, Nat.zero_le _, by rw [Nat.zero_mul]; exact HCb, HO⟩
    case round =>
     obtain ⟨k, rfl, hk, HN2, HO2⟩ := hrel
     by_cases hkl : k < 3
     · have k1 : (k : Int) < 3 := by omega
      have hbx := box_at (C p 0) (C p 1) (C p 2) (C p 3) (C p 4) (C p 5) k hkl
      have hU : tri7 (C p 0) (C p 2) (C p 4) k = C p (2 * k) /\ tri7 (C p 1) (C p 3) (C p 5) k = C p (2 * k + 1) := by
       match k, hkl with
       | 0, _ => exact ⟨rfl, rfl⟩
       | 1, _ => exact ⟨rfl, rfl⟩
       | 2, _ => exact ⟨rfl, rfl⟩
      rw [hU.1, hU.2] at hbx
      have HUu : Hid (U64 (C p (2 * k))) := HCu.out _ (by omega)
      have HVu : Hid (U64 (C p (2 * k + 1))) := HCu.out _ (by omega)
      have HDu : Hid (D i (2 * k) = mulI (C p (2 * k)) (expI P Q G (R i k)) P) := by
       unfold Hid; rw [HDe.out]; unfold mixC; rw [if_pos (by omega), HPe.out, show 2 * k / 2 = k by omega]
      have HDv : Hid (D i (2 * k + 1) = mulI (C p (2 * k + 1)) (expI P Q y (R i k)) P) := by
       unfold Hid; rw [HDe.out]; unfold mixC; rw [if_neg (by omega), HPe.out, show (2 * k + 1) / 2 = k by omega]
      rcases HRx.out with h0 | ⟨by_, oy, hqy, _, hry⟩
      · omega
      have HRu : Hid (U64 (R i k)) := (hry i hlt k hkl).2
      have HRc0 : Hid (∀ wx, Old wr wx -> wx.cell? ⟨by_, oy + i * 3 + k, none⟩ = some (.int .u64 (R i k))) := fun wx hx => ((HW0.out.trans HO2.out).trans hx).cellOf (hry i hlt k hkl).1
      clear hry
      subst hqy
      clear hU
      generalize C p (2 * k) = xu at *
      generalize C p (2 * k + 1) = xv at *
      have HWp : Hid (Old wr (wr.alloc (.cells #[.int .u64 xu, .int .u64 xv] 69))) := (Old.refl _).alloc _
      have HPr0 : (wr.alloc (.cells #[.int .u64 xu, .int .u64 xv] 69)).heap[wr.heap.size]? = some (.cells #[.int .u64 xu, .int .u64 xv] 69 (0, 0)) := heap_alloc_last _ _
      go_upto_region 11 with fail
      generalize wr.heap.size = sp at *
      generalize wr.alloc (.cells #[.int .u64 xu, .int .u64 xv] 69) = Wp at *
      have HPr : Hid (∀ wx, Old Wp wx -> wx.heap[sp]? = some (.cells #[.int .u64 xu, .int .u64 xv] 69 (0, 0))) := fun wx hx => (hx.block _ (Array.getElem?_eq_some_iff.1 HPr0).1).trans HPr0
      have HRc : Hid (∀ wx, Old Wp wx -> wx.cell? ⟨by_, oy + i * 3 + k, none⟩ = some (.int .u64 (R i k))) := fun wx hx => HRc0.out _ (HWp.out.trans hx)
      have HGr : Hid (∀ wx, Old Wp wx -> wx.heap[w.heap.size]? = some (.cells (gc P Q G H a n cap) 25 (0, 0))) := fun wx hx => HG.out _ ((HO2.out.trans HWp.out).trans hx)
      clear HPr0 HRc0 hbx
      refine wp_region_tab 15 [.k (.slice (some ⟨bl, 0, none⟩) no no), .k (.int .i64 (i : Int)), .k (.int .i64 (k : Int)), .k (gv P Q G H a n cap), .k (.int .u64 y), .k (pv xu xv), .k (.slice (some ⟨by_, oy, none⟩) no cρ), .k (.int .i64 (i : Int)), .k (.int .i64 (k : Int)), .k (.pointer (some ⟨by_, oy + i * 3, none⟩)), .k (.pointer (some ⟨by_, oy + i * 3 + k, none⟩)), .k (.int .u64 (R i k)), .k (pv (D i (2 * k)) (D i (2 * k + 1))), .k (.pointer (some ⟨bl, i * 6, none⟩)), .k (.pointer (some ⟨bl, i * 6 + k * 2, none⟩))] (Old Wp) (by kernel_rfl) (by kernel_rfl) rfl ((Old.refl _).drew) ?st ?_
      case st =>
       refine .c stp <| .c stp <| .c stp <| .c (sts Tryz.underlying25 HGr.out) <| .c stp <| .c (sts Tryz.underlying69 HPr.out) <| .c stp <| .c stp <| .c stp <| .c (stj (n := no) (c := cρ) 3 hlt Tryz.underlying28) <| .c (sai hkl Tryz.underlying63) <| .c (stl Tryz.underlying22 HRc.out) <| .c (stK old_R Tryz.func53 (fun wx _ => by rw [HDu.out, HDv.out]; exact gagain_any P Q G H a n cap y xu xv (R i k) wx H4.out HRi.out hy HUu.out HVu.out HRu.out)) <| .c (stj0 (n := no) (c := no) 6 hlt Tryz.underlying26) <| .c (saj 2 hkl Tryz.underlying74) .n
      intro t wx hR hk
      simp only [fill, Ent.val, List.set_cons_zero, List.set_cons_succ, List.drop_succ_cons, List.drop_zero, List.drop_nil]
      have HNx := HN2.out.old (HWp.out.trans hR)
      have HG1 : Hid (FulV ((wx.setCell ⟨bl, i * 6 + k * 2, none⟩ (.int .u64 (D i (2 * k)))).setCell ⟨bl, i * 6 + k * 2 + 1, none⟩ (.int .u64 (D i (2 * k + 1)))) bl (no * 6) 74 (bxV (i * 6 + (k + 1) * 2) D)) := by
       have h := bxV_next HNx (x := D i (2 * k)) (z := D i (2 * k + 1)) (by rw [show i * 6 + k * 2 = 6 * i + 2 * k by omega, flat_at D i (2 * k) (by omega)]) (by rw [show i * 6 + k * 2 + 1 = 6 * i + (2 * k + 1) by omega, flat_at D i (2 * k + 1) (by omega)])
       rwa [show i * 6 + k * 2 + 2 = i * 6 + (k + 1) * 2 by omega] at h
      have HG2 : Hid (Old W ((wx.setCell ⟨bl, i * 6 + k * 2, none⟩ (.int .u64 (D i (2 * k)))).setCell ⟨bl, i * 6 + k * 2 + 1, none⟩ (.int .u64 (D i (2 * k + 1))))) := (((HO2.out.trans HWp.out).trans hR).setCell (p := ⟨bl, i * 6 + k * 2, none⟩) hs3 _).setCell (p := ⟨bl, i * 6 + k * 2 + 1, none⟩) hs3 _
      have q0 := HNx.cell (i * 6 + k * 2) (by omega)
      have q1 := HNx.cell (i * 6 + k * 2 + 1) (by omega)
      have f0 := HNx.free (i * 6 + k * 2)
      have f1 := HNx.free (i * 6 + k * 2 + 1)
      clear hR hk HNx HPr HRc HGr
      generalize D i (2 * k) = du at *
      generalize D i (2 * k + 1) = dv at *
      go_wp2_with fail
      go_roundw
      case rel => exact ⟨k + 1, idx_next k, by omega, HG1, HG2⟩
      case measure => simp [intOf]; omega
     · have hk3 : k = 3 := by omega
      subst hk3
      have HN3 : Hid (FulV wr bl (no * 6) 74 (bxV ((i + 1) * 6) D)) := by have := HN2.out; rwa [show i * 6 + 3 * 2 = (i + 1) * 6 by omega] at this
      go_wp2_with fail
      go_roundw
      case rel => exact ⟨i + 1, idx_next i, by omega, HN3, HO2⟩
      case measure => simp [intOf]; omega
   · have he : no = i := by omega
    subst he
    have HD' : Hid (BoxF wr (some ⟨bl, 0, none⟩) no D) := fulV_boxs HN.out (fun i k => by rw [HDe.out]; exact mixC_u64 _ _ _ _ _ _ _ i k)
    go_wp2_with fail
    go_ret2
    exact ⟨HW0.out.trans HO.out, _, rfl, HD'.out⟩
end
section
open Go.RowKit
structure Mixd (P Q G H X Y Z y : Int) (n : Nat) (o : Nat -> Nat) (R S T : Nat -> Int) (Rho : Nat -> Nat -> Int) (A B Pp : Nat -> Int) (Ui Vi Uo Vo : Nat -> Nat -> Int) : Prop where
 gr : Righ P Q G
 hin : inI P Q H = true
 yin : inI P Q y = true
 ord : Ord8 n o
 n1 : 0 < n
 y0 : 0 <= Y
 z0 : 0 <= Z
 r0 : ∀ i, i < n -> 0 <= R i
 s0 : ∀ i, i < n -> 0 <= S i
 t0 : ∀ i, i < n -> 0 <= T i
 w0 : ∀ i, i < n -> ∀ w, 0 <= Rho i w
 a : ∀ i, i < n -> A i = comI P Q G H ((o i : Int) + 1) (R i)
 b : ∀ i, i < n -> B i = comI P Q G H (bE Q X o i) (S i)
 p0 : Pp 0 = bigI P Q G (A 0) (B 0) Y Z
 p : ∀ i, i + 1 < n -> Pp (i + 1) = mulI (expI P Q (Pp i) (dE Q X Y Z o (i + 1))) (expI P Q H (T (i + 1))) P
 ui : ∀ j, j < n -> ∀ w, inI P Q (Ui j w) = true
 vi : ∀ j, j < n -> ∀ w, inI P Q (Vi j w) = true
 uo : ∀ i, i < n -> ∀ w, Uo i w = mulI (Ui (o i) w) (expI P Q G (Rho i w)) P
 vo : ∀ i, i < n -> ∀ w, Vo i w = mulI (Vi (o i) w) (expI P Q y (Rho i w)) P
section
variable {P Q G H X Y Z y : Int} {n : Nat} {o : Nat -> Nat} {R S T : Nat -> Int} {Rho : Nat -> Nat -> Int} {A B Pp : Nat -> Int} {Ui Vi Uo Vo : Nat -> Nat -> Int}
theorem mod_nn {a Q : Int} (hQ : 0 < Q) : 0 <= a % Q := Int.emod_nonneg _ (by omega)
theorem dE_sum {P G : Int} (h : Righ P Q G) (X Y Z : Int) (o : Nat -> Nat) (i : Nat) : (dE Q X Y Z o i + Z) % Q = (Y * ((o i : Int) + 1) + bE Q X o i) % Q := by
 unfold dE
 rw [sub_back h.okq, addI_yes h.okq, mod_self, mulI_yes h.okq]
 exact cong_add (mod_self _ _) rfl
theorem uE_mod {P G : Int} (h : Righ P Q G) (Y : Int) (R S : Nat -> Int) (i : Nat) : uE Q Y R S i % Q = (Y * R i + S i) % Q := by
 unfold uE
 rw [addI_yes h.okq, mod_self, mulI_yes h.okq]
 exact cong_add (mod_self _ _) rfl
theorem Mixd.rowA (m : Mixd P Q G H X Y Z y n o R S T Rho A B Pp Ui Vi Uo Vo) {i : Nat} (hi : i < n) : imI P Q (row28 i G (n + i) H) (exF Q X Y Z n o R S T Rho) (7 * n + 3) = A i := by
 have h := m.gr
 have c := h.com m.hin (m := (o i : Int) + 1) (r := R i) (by omega) (m.r0 i hi)
 rw [m.a i hi]
 refine h.row28 (by have := m.n1; omega) (by omega) h.gin m.hin (fun k => exF_nn h.q1' k) c.1 ?_
 rw [exF_a hi, exF_r hi, c.2]
 exact cong_mul (h.pow_mod h.gin (mod_nn h.q1') (by omega) (mod_self _ _)) (h.pow_mod m.hin (mod_nn h.q1') (m.r0 i hi) (mod_self _ _))
theorem Mixd.rowB (m : Mixd P Q G H X Y Z y n o R S T Rho A B Pp Ui Vi Uo Vo) {i : Nat} (hi : i < n) : imI P Q (row28 (2 * n + i) G (3 * n + i) H) (exF Q X Y Z n o R S T Rho) (7 * n + 3) = B i := by
 have h := m.gr
 have c := h.com m.hin (m := bE Q X o i) (r := S i) (pow_nn _ _ _) (m.s0 i hi)
 rw [m.b i hi]
 refine h.row28 (by have := m.n1; omega) (by omega) h.gin m.hin (fun k => exF_nn h.q1' k) c.1 ?_
 rw [exF_b hi, exF_s hi, c.2]
 exact cong_mul rfl (h.pow_mod m.hin (mod_nn h.q1') (m.s0 i hi) (mod_self _ _))
theorem Mixd.big (m : Mixd P Q G H X Y Z y n o R S T Rho A B Pp Ui Vi Uo Vo) {i : Nat} (hi : i < n) : inI P Q (bigI P Q G (A i) (B i) Y Z) = true /\ bigI P Q G (A i) (B i) Y Z % P = G ^ (dE Q X Y Z o i).toNat * H ^ (uE Q Y R S i).toNat % P := by
 rw [m.a i hi, m.b i hi]
 exact m.gr.big m.hin (by omega) (m.r0 i hi) (pow_nn _ _ _) (m.s0 i hi) m.y0 m.z0 (subI_nn _ _ _) (addI_bd _ _ _).1 (dE_sum m.gr X Y Z o i) (uE_mod m.gr Y R S i)
theorem Mixd.rowD (m : Mixd P Q G H X Y Z y n o R S T Rho A B Pp Ui Vi Uo Vo) {i : Nat} (hi : i < n) : imI P Q (row28 (4 * n + i) G (5 * n + i) H) (exF Q X Y Z n o R S T Rho) (7 * n + 3) = bigI P Q G (A i) (B i) Y Z := by
 have h := m.gr
 have c := m.big hi
 refine h.row28 (by have := m.n1; omega) (by omega) h.gin m.hin (fun k => exF_nn h.q1' k) c.1 ?_
 rw [exF_d hi, exF_u hi, c.2]
theorem Mixd.pp (m : Mixd P Q G H X Y Z y n o R S T Rho A B Pp Ui Vi Uo Vo) : ∀ i, i < n -> inI P Q (Pp i) = true /\ Pp i % P = G ^ (pr (fun j => dE Q X Y Z o j) (i + 1)).toNat * H ^ (vE Q X Y Z o R S T i).toNat % P
 | 0, hi => by
  have c := m.big hi
  rw [m.p0]
  refine ⟨c.1, c.2.trans ?_⟩
  show _ = G ^ (1 * dE Q X Y Z o 0).toNat * H ^ (uE Q Y R S 0).toNat % P
  rw [Int.one_mul]
 | i + 1, hi => by
  have ih := Mixd.pp m i (by omega)
  rw [m.p i hi]
  have hd : 0 <= dE Q X Y Z o (i + 1) := subI_nn _ _ _
  exact m.gr.third m.hin ih.1 hd (m.t0 _ hi) (pr_nn (i + 1) fun j _ => subI_nn _ _ _) (vE_nn _ _ _ _ _ _ _ _ i) ih.2 (vE_nn _ _ _ _ _ _ _ _ (i + 1)) (by
   show addI (mulI (vE Q X Y Z o R S T i) (dE Q X Y Z o (i + 1)) Q) (T (i + 1)) Q % Q = _
   rw [addI_yes m.gr.okq, mod_self, mulI_yes m.gr.okq]
   exact cong_add (mod_self _ _) rfl)
theorem Mixd.rowP (m : Mixd P Q G H X Y Z y n o R S T Rho A B Pp Ui Vi Uo Vo) {i : Nat} (hi : i + 1 < n) : imI P Q (row28 (4 * n + (i + 1)) (Pp i) (6 * n + i) H) (exF Q X Y Z n o R S T Rho) (7 * n + 3) = Pp (i + 1) := by
 have h := m.gr
 have c0 := m.pp i (by omega)
 have c1 := m.pp (i + 1) hi
 refine h.row28 (by omega) (by omega) c0.1 m.hin (fun k => exF_nn h.q1' k) c1.1 ?_
 have hd : 0 <= dE Q X Y Z o (i + 1) := subI_nn _ _ _
 rw [exF_d hi, exF_t hi, m.p i hi, mul_cong h.ok (h.exp_cong c0.1 hd) (h.exp_cong m.hin (m.t0 _ hi))]
 exact cong_mul rfl (h.pow_mod m.hin (mod_nn h.q1') (m.t0 _ hi) (mod_self _ _))
theorem Mixd.rowL (m : Mixd P Q G H X Y Z y n o R S T Rho A B Pp Ui Vi Uo Vo) {B1 : Nat -> Int} (hB : ∀ k, k < 7 * n + 3 -> k ≠ 7 * n - 1 -> B1 k = 1) (hH : B1 (7 * n - 1) = H) : imI P Q B1 (exF Q X Y Z n o R S T Rho) (7 * n + 3) = overI P (Pp (n - 1)) (expI P Q G (prodI Q (kF Q X Y Z) n)) := by
 have h := m.gr
 have hn := m.n1
 have c := m.pp (n - 1) (by omega)
 rw [show n - 1 + 1 = n by omega] at c
 have hpk := h.prod_order m.ord (kF Q X Y Z)
 have hl := h.last (k := prodI Q (kF Q X Y Z) n) c.1 (pr_nn n fun j _ => subI_nn _ _ _) (prodI_bd _ _ _).1 c.2 hpk
 refine h.row1 (p := 7 * n - 1) (by omega) hB (by rw [hH]; exact m.hin) (fun k _ => exF_nn h.q1' k) hl.1 ?_
 rw [hH, exF_v hn]
 exact hl.2
theorem pw_prod {P Q G : Int} (h : Righ P Q G) (U c : Nat -> Int) : ∀ n, (∀ j, j < n -> inI P Q (U j) = true) -> (∀ j, j < n -> 0 <= c j) -> prodI P (fun j => expI P Q (U j) (c j)) n % P = pw U c n % P := fun n hU hc => h.im_cong n hU hc
theorem Mixd.rowU (m : Mixd P Q G H X Y Z y n o R S T Rho A B Pp Ui Vi Uo Vo) {w : Nat} (hw : w < 3) : imI P Q (rowS8 (2 * n) n (fun i => Uo i w) (7 * n + w) G) (exF Q X Y Z n o R S T Rho) (7 * n + 3) = prodI P (fun j => expI P Q (Ui j w) (powI X ((j : Int) + 1) Q)) n := by
 have h := m.gr
 have hn := m.n1
 have hUo : ∀ i, i < n -> inI P Q (Uo i w) = true := fun i hi => by rw [m.uo i hi]; exact h.mul_in (m.ui _ (m.ord.lt i hi) w) (h.exp_in h.gin)
 refine h.rowS8 (by omega) (by omega) hUo h.gin (fun k => exF_nn h.q1' k) (h.prod_in n fun j hj => h.exp_in (m.ui j hj w)) ?_
 rw [pw_prod h (fun j => Ui j w) (fun j => powI X ((j : Int) + 1) Q) n (fun j hj => m.ui j hj w) (fun j _ => pow_nn _ _ _), exF_w hn, pw_congr n (fun i hi => ⟨rfl, exF_b hi⟩)]
 refine h.mixed h.gin m.ord (U := fun j => Ui j w) (c := fun j => powI X ((j : Int) + 1) Q) (fun j _ => pow_nn _ _ _) (fun i hi => m.w0 i hi w) (fun i hi => ?_) (rhoE_nn _ _ _ _ _ _) (rhoE_sum h o Rho w n)
 rw [m.uo i hi]
 exact mul_cong h.ok rfl (h.exp_cong h.gin (m.w0 i hi w))
theorem Mixd.rowV (m : Mixd P Q G H X Y Z y n o R S T Rho A B Pp Ui Vi Uo Vo) {w : Nat} (hw : w < 3) : imI P Q (rowS8 (2 * n) n (fun i => Vo i w) (7 * n + w) y) (exF Q X Y Z n o R S T Rho) (7 * n + 3) = prodI P (fun j => expI P Q (Vi j w) (powI X ((j : Int) + 1) Q)) n := by
 have h := m.gr
 have hn := m.n1
 have hVo : ∀ i, i < n -> inI P Q (Vo i w) = true := fun i hi => by rw [m.vo i hi]; exact h.mul_in (m.vi _ (m.ord.lt i hi) w) (h.exp_in m.yin)
 refine h.rowS8 (by omega) (by omega) hVo m.yin (fun k => exF_nn h.q1' k) (h.prod_in n fun j hj => h.exp_in (m.vi j hj w)) ?_
 rw [pw_prod h (fun j => Vi j w) (fun j => powI X ((j : Int) + 1) Q) n (fun j hj => m.vi j hj w) (fun j _ => pow_nn _ _ _), exF_w hn, pw_congr n (fun i hi => ⟨rfl, exF_b hi⟩)]
 refine h.mixed m.yin m.ord (U := fun j => Vi j w) (c := fun j => powI X ((j : Int) + 1) Q) (fun j _ => pow_nn _ _ _) (fun i hi => m.w0 i hi w) (fun i hi => ?_) (rhoE_nn _ _ _ _ _ _) (rhoE_sum h o Rho w n)
 rw [m.vo i hi]
 exact mul_cong h.ok rfl (h.exp_cong m.yin (m.w0 i hi w))
end
end
section
open Go.RowKit
def row18 (p : Nat) (x : Int) : Nat -> Int := fun k => if k = p then x else 1
theorem row18_in {P Q G x : Int} (h : Righ P Q G) {p : Nat} (hx : inI P Q x = true) (k : Nat) : inI P Q (row18 p x k) = true := by
 unfold row18
 split
 · exact hx
 · exact h.one_in
section
variable (n : Nat) (A B D Pp : Nat -> Int) (last : Int) (UV : Nat -> Int) (G H y : Int) (Uo Vo : Nat -> Nat -> Int)
def tgt8 (j : Nat) : Int :=
 if j < n then A j else if j < 2 * n then B (j - n) else if j < 3 * n then D (j - 2 * n) else if j < 4 * n - 1 then Pp (j - 3 * n + 1) else if j = 4 * n - 1 then last else UV (j - 4 * n)
def bas8 (j : Nat) : Nat -> Int :=
 if j < n then row28 j G (n + j) H
 else if j < 2 * n then row28 (2 * n + (j - n)) G (3 * n + (j - n)) H
 else if j < 3 * n then row28 (4 * n + (j - 2 * n)) G (5 * n + (j - 2 * n)) H
 else if j < 4 * n - 1 then row28 (4 * n + (j - 3 * n + 1)) (Pp (j - 3 * n)) (6 * n + (j - 3 * n)) H
 else if j = 4 * n - 1 then row18 (7 * n - 1) H
 else if (j - 4 * n) % 2 = 0 then rowS8 (2 * n) n (fun i => Uo i ((j - 4 * n) / 2)) (7 * n + (j - 4 * n) / 2) G
 else rowS8 (2 * n) n (fun i => Vo i ((j - 4 * n) / 2)) (7 * n + (j - 4 * n) / 2) y
end
def uvI (P Q X : Int) (n : Nat) (Ui Vi : Nat -> Nat -> Int) (e : Nat) : Int :=
 if e % 2 = 0 then prodI P (fun j => expI P Q (Ui j (e / 2)) (powI X ((j : Int) + 1) Q)) n else prodI P (fun j => expI P Q (Vi j (e / 2)) (powI X ((j : Int) + 1) Q)) n
def lastI (P Q G X Y Z : Int) (n : Nat) (p : Int) : Int := overI P p (expI P Q G (prodI Q (kF Q X Y Z) n))
def tgtT (P Q G X Y Z : Int) (n : Nat) (A B Pp : Nat -> Int) (Ui Vi : Nat -> Nat -> Int) : Nat -> Int :=
 tgt8 n A B (fun i => bigI P Q G (A i) (B i) Y Z) Pp (lastI P Q G X Y Z n (Pp (n - 1))) (uvI P Q X n Ui Vi)
theorem row28_in {P Q G x z : Int} (h : Righ P Q G) {p q : Nat} (hx : inI P Q x = true) (hz : inI P Q z = true) (k : Nat) : inI P Q (row28 p x q z k) = true := by
 unfold row28
 split
 · exact hx
 · split
  · exact hz
  · exact h.one_in
theorem rowS8_in {P Q G z : Int} (h : Righ P Q G) {m n q : Nat} {W : Nat -> Int} (hW : ∀ i, i < n -> inI P Q (W i) = true) (hz : inI P Q z = true) (k : Nat) : inI P Q (rowS8 m n W q z k) = true := by
 unfold rowS8
 split
 · exact hW _ (by omega)
 · split
  · exact hz
  · exact h.one_in
structure Elms (P Q G H y : Int) (n : Nat) (A B Pp : Nat -> Int) (Ui Vi Uo Vo : Nat -> Nat -> Int) : Prop where
 gr : Righ P Q G
 hin : inI P Q H = true
 yin : inI P Q y = true
 n1 : 0 < n
 n8 : n <= 8
 a : ∀ i, i < n -> inI P Q (A i) = true
 b : ∀ i, i < n -> inI P Q (B i) = true
 p : ∀ i, i < n -> inI P Q (Pp i) = true
 ui : ∀ j, j < n -> ∀ w, w < 3 -> inI P Q (Ui j w) = true
 vi : ∀ j, j < n -> ∀ w, w < 3 -> inI P Q (Vi j w) = true
 uo : ∀ j, j < n -> ∀ w, w < 3 -> inI P Q (Uo j w) = true
 vo : ∀ j, j < n -> ∀ w, w < 3 -> inI P Q (Vo j w) = true
section
variable {P Q G H X Y Z y : Int} {n : Nat} {A B Pp : Nat -> Int} {Ui Vi Uo Vo : Nat -> Nat -> Int}
theorem Elms.big (m : Elms P Q G H y n A B Pp Ui Vi Uo Vo) (Y Z : Int) {i : Nat} (hi : i < n) : inI P Q (bigI P Q G (A i) (B i) Y Z) = true :=
 m.gr.over_in (m.gr.mul_in (m.gr.exp_in (m.a i hi)) (m.b i hi)) (m.gr.exp_in m.gr.gin)
theorem Elms.uv (m : Elms P Q G H y n A B Pp Ui Vi Uo Vo) (X : Int) {e : Nat} (he : e < 6) : inI P Q (uvI P Q X n Ui Vi e) = true := by
 unfold uvI
 split
 · exact m.gr.prod_in n fun j hj => m.gr.exp_in (m.ui j hj _ (by omega))
 · exact m.gr.prod_in n fun j hj => m.gr.exp_in (m.vi j hj _ (by omega))
theorem Elms.tgt (m : Elms P Q G H y n A B Pp Ui Vi Uo Vo) (X Y Z : Int) {j : Nat} (hj : j < 4 * n + 6) : inI P Q (tgtT P Q G X Y Z n A B Pp Ui Vi j) = true := by
 have hn := m.n1
 unfold tgtT tgt8
 repeat' split
 · exact m.a _ (by omega)
 · exact m.b _ (by omega)
 · exact m.big _ _ (by omega)
 · exact m.p _ (by omega)
 · exact m.gr.over_in (m.p _ (by omega)) (m.gr.exp_in m.gr.gin)
 · exact m.uv X (by omega)
theorem Elms.bas (m : Elms P Q G H y n A B Pp Ui Vi Uo Vo) {j : Nat} (hj : j < 4 * n + 6) (k : Nat) : inI P Q (bas8 n Pp G H y Uo Vo j k) = true := by
 have hn := m.n1
 unfold bas8
 repeat' split
 · exact row28_in m.gr m.gr.gin m.hin k
 · exact row28_in m.gr m.gr.gin m.hin k
 · exact row28_in m.gr m.gr.gin m.hin k
 · exact row28_in m.gr (m.p _ (by omega)) m.hin k
 · exact row18_in m.gr m.hin k
 · exact rowS8_in m.gr (fun i hi => m.uo i hi _ (by omega)) m.gr.gin k
 · exact rowS8_in m.gr (fun i hi => m.vo i hi _ (by omega)) m.yin k
theorem Elms.claim (m : Elms P Q G H y n A B Pp Ui Vi Uo Vo) (X Y Z : Int) : IsClaim P Q (4 * n + 6) (tgtT P Q G X Y Z n A B Pp Ui Vi) (4 * n + 6) (fun _ => 7 * n + 3) (bas8 n Pp G H y Uo Vo) (7 * n + 3) :=
 ⟨by omega, by have := m.n8; omega, rfl, by omega, by have := m.n8; omega, fun _ _ => rfl, fun j hj => m.tgt X Y Z hj, fun j hj i _ => m.bas hj i⟩
end
section
variable {P Q G H X Y Z y : Int} {n : Nat} {o : Nat -> Nat} {R S T : Nat -> Int} {Rho : Nat -> Nat -> Int} {A B Pp : Nat -> Int} {Ui Vi Uo Vo : Nat -> Nat -> Int}
theorem Mixd.elms (m : Mixd P Q G H X Y Z y n o R S T Rho A B Pp Ui Vi Uo Vo) (hn : n <= 8) : Elms P Q G H y n A B Pp Ui Vi Uo Vo := by
 have h := m.gr
 refine ⟨h, m.hin, m.yin, m.n1, hn, fun i hi => ?_, fun i hi => ?_, fun i hi => (m.pp i hi).1, fun j hj w _ => m.ui j hj w, fun j hj w _ => m.vi j hj w, fun i hi w _ => ?_, fun i hi w _ => ?_⟩
 · rw [m.a i hi]; exact (h.com m.hin (by omega) (m.r0 i hi)).1
 · rw [m.b i hi]; exact (h.com m.hin (pow_nn _ _ _) (m.s0 i hi)).1
 · rw [m.uo i hi]; exact h.mul_in (m.ui _ (m.ord.lt i hi) w) (h.exp_in h.gin)
 · rw [m.vo i hi]; exact h.mul_in (m.vi _ (m.ord.lt i hi) w) (h.exp_in m.yin)
theorem Mixd.holds (m : Mixd P Q G H X Y Z y n o R S T Rho A B Pp Ui Vi Uo Vo) {j : Nat} (hj : j < 4 * n + 6) : imI P Q (bas8 n Pp G H y Uo Vo j) (exF Q X Y Z n o R S T Rho) (7 * n + 3) = tgtT P Q G X Y Z n A B Pp Ui Vi j := by
 have hn := m.n1
 unfold bas8 tgtT tgt8
 by_cases h1 : j < n
 · rw [if_pos h1, if_pos h1]
  exact m.rowA h1
 rw [if_neg h1, if_neg h1]
 by_cases h2 : j < 2 * n
 · rw [if_pos h2, if_pos h2]
  exact m.rowB (by omega)
 rw [if_neg h2, if_neg h2]
 by_cases h3 : j < 3 * n
 · rw [if_pos h3, if_pos h3]
  exact m.rowD (by omega)
 rw [if_neg h3, if_neg h3]
 by_cases h4 : j < 4 * n - 1
 · rw [if_pos h4, if_pos h4]
  exact m.rowP (by omega)
 rw [if_neg h4, if_neg h4]
 by_cases h5 : j = 4 * n - 1
 · rw [if_pos h5, if_pos h5]
  exact m.rowL (fun k _ hk => if_neg hk) (if_pos rfl)
 rw [if_neg h5, if_neg h5]
 unfold uvI
 by_cases h6 : (j - 4 * n) % 2 = 0
 · rw [if_pos h6, if_pos h6]
  exact m.rowU (by omega)
 · rw [if_neg h6, if_neg h6]
  exact m.rowV (by omega)
end
end
end Go.Proofs.YtlnmjbbpenhdbaaGreat
