/-
  What the proof needs, part 10.
-/
import Derived.Test.YtlnmjbbpenhdbaaGreatKp09
import Derived.Deep.Strs
import Derived.OpenShut
namespace Go.Proofs.YtlnmjbbpenhdbaaGreat
open Tryz
open List renaming set_cons_zero → Ls0, set_cons_succ → Ls1, drop_succ_cons → Ld1, drop_zero → Ld0, drop_nil → Ldn
open Tryz renaming underlying5 → U5, underlying9 → U9, underlying22 → U22, underlying25 → U25, underlying26 → U26, underlying28 → U28, underlying29 → U29, underlying41 → U41, underlying55 → U55, underlying63 → U63, underlying69 → U69, underlying74 → U74, underlying143 → U143, underlying152 → U152
set_option linter.unusedSimpArgs false
set_option linter.unusedVariables false
set_option maxRecDepth 100000
set_option maxHeartbeats 32000000
section
open Go.RowKit
theorem sfirst_any (P Q G H : Int) (a : OA) (n cap : Nat) (bo : OA) (no co : Nat) (O : NI) (br : OA) (nr cr : Nat) (R : NI) (w : World) (h4 : Four P Q G H) (hr : Righ P Q G) (mo : no <= 80) (mr : nr <= 80) (hO : IntsIn w bo no O) (hR : FacsIn w br nr R) :
  Calls prog 20 #[gv P Q G H a n cap, .slice bo no co, .slice br nr cr] w (GivL w (if ordB no O && decide (nr = no) then no else 0) (fun i => comI P Q G H (O i + 1) (R i))) := by
 have HX := hid hR
 have HZ := lain1 w (gc P Q G H a n cap) 25
 have HG0 := fun w' ho => (HZ.then (W' := w') ho).row 0 (by simp)
 have HW0 := hid HZ.old
 have HOr := hid fun wx (ho : Old w wx) => zfA bo no co O wx (by omega) (hO.old ho)
 cases ho : ordB no O with
 | false =>
  rw [ho] at HOr
  clear ho hO hR h4 hr HG0
  go_enter func20, ntmps20
  go_upto_region 1 with fail
  generalize w.alloc (.cells (gc P Q G H a n cap) 25) = W at *
  go_wp2_with (go_at_call 50; refine (HOr.out _ HW0.out).mono ?_; rintro e w1 ⟨rfl, o1⟩)
  go_ret
  exact zfo _ (HW0.out.trans o1)
 | true =>
  rw [ho] at HOr
  have hP := zaA.1 ho
  clear ho
  by_cases hn : nr = no
  ·subst hn
   have HB : Hid (∀ i, i < nr -> 0 <= O i /\ O i < 1000) := fun i hi => by have := hP.2.1 i hi; omega
   have m0 : 0 < nr := hP.1
   have HCo := hid fun wx (hx : Old w wx) => zfy bo nr co O wx mr (hO.old hx) HB.out
   have HUj : Hid (∀ i, i < nr -> U64 (O i + 1)) := fun i hi => by have := HB.out i hi; exact ⟨by omega, by omega⟩
   obtain ⟨F, hF⟩ : ∃ F : Nat -> Int, F = fun i => comI P Q G H (O i + 1) (R i) := ⟨_, rfl⟩
   have HFi : Hid (∀ i, F i = comI P Q G H (O i + 1) (R i)) := fun i => by rw [hF]
   rw [<- hF]
   obtain ⟨K, hK0⟩ : ∃ K : Nat -> Int, K = fun i => O i + 1 := ⟨_, rfl⟩
   have HK : Hid (∀ i, K i = O i + 1) := fun i => by rw [hK0]
   have HUk : Hid (∀ i, i < nr -> U64 (K i)) := fun i hi => by rw [HK.out]; exact HUj.out i hi
   rw [<- hK0] at HCo
   have HRu := hid hR.u64
   have H4 := hid h4
   have HRi := hid hr
   clear hF hO hR h4 hr hP HB hK0 HUj
   simp only [decide_true, Bool.and_self, if_true]
   have hmk := zaP nr mr
   go_enter func20, ntmps20
   go_upto_region 1 with fail
   generalize w.alloc (.cells (gc P Q G H a n cap) 25) = W at *
   have HG := hid HG0
   clear HG0
   go_upto_region 3 with (go_at_call 50; refine (HOr.out _ HW0.out).mono ?_; rintro e w1 ⟨rfl, o1⟩)
   go_upto_region 4 with fail
   have HFu := zaC w1 nr F
   have HW1 : Hid (Old W (w1.alloc (.cells (madeCells #[Value.int .u64 0] nr) 22))) := o1.alloc _
   have hs1 := o1.size
   generalize w1.alloc (.cells (madeCells #[Value.int .u64 0] nr) 22) = W1 at *
   go_upto_region 5 with (go_at_call 58; refine (HCo.out _ (HW0.out.trans HW1.out)).mono ?_; rintro e w2 ⟨o2, bk, hbk, rfl, hful⟩; have HK2 : Hid (Full w2 bk nr K) := hful; have HFu2 : Hid (Full w2 w1.heap.size nr (upTo 0 F)) := HFu.old o2; have HW2 : Hid (Old W w2) := HW1.out.trans o2; have hne : bk ≠ w1.heap.size := (by have := HFu.lt; omega); clear hful o2)
   go_loopw [26] (fun iv wx => ∃ i : Nat, iv = .int .i64 (i : Int) /\ i <= nr /\ Hid (Full wx w1.heap.size nr (upTo i F)) /\ Hid (Full wx bk nr K) /\ Hid (Old W wx)) (fun iv _ => nr - (intOf iv).toNat)
   case atStart => exact ⟨0, rfl, Nat.zero_le _, HFu2, HK2, HW2⟩
   case round =>
    obtain ⟨i, rfl, hi1, HN, HKx, HW⟩ := hrel
    by_cases hlt : i < nr
    ·rcases HX.out with h0 | ⟨bx, ox, hqx, _, hrx⟩
     ·omega
     have HR := hid fun wx (hx : Old wr wx) => ((HW0.out.trans HW.out).trans hx).cellOf (hrx i hlt).1
     have HGr := hid fun wx (hx : Old wr wx) => HG.out _ (HW.out.trans hx)
     clear hrx
     subst hqx
     have ck := HKx.out.cell i hlt
     go_upto_region 7 with fail
     refine zaa 10 [.k (.slice (some ⟨w1.heap.size, 0, none⟩) nr nr), .k (.int .i64 (i : Int)), .k (gv P Q G H a n cap), .k (.int .u64 (K i)), .k (.slice (some ⟨bx, ox, none⟩) nr cr), .k (.int .i64 (i : Int)), .k (.pointer (some ⟨bx, ox + i, none⟩)), .k (.int .u64 (R i)), .k (.int .u64 (F i)), .k (.pointer (some ⟨w1.heap.size, i, none⟩))] (Old wr) (by kernel_rfl) (by kernel_rfl) rfl ((Old.refl _).drew) ?st ?_
     case st =>
      refine .p <| .p <| .c (sts U25 HGr.out) <| .p <| .p <| .p <| .c (sti (c := cr) hlt U29) <| .c (stl U22 HR.out) <| .c (stK old_R func59 (fun wx _ => by rw [HFi.out, <- HK.out]; exact zeE P Q G H a n cap (K i) (R i) wx H4.out HRi.out (HUk.out i hlt) (HRu.out i hlt))) <| .c (sti0 (c := nr) hlt U29) .n
     intro t wx hR hk
     simp only [fill, Ent.val, Ls0, Ls1, Ld1, Ld0, Ldn]
     have HNx := hid (HN.out.old hR)
     have HG1 := hid HNx.out.next
     have HKn : Hid (Full (wx.setCell ⟨w1.heap.size, i, none⟩ (.int .u64 (F i))) bk nr K) := (HKx.out.old hR).other (p := ⟨w1.heap.size, i, none⟩) hne _
     have HG2 : Hid (Old W (wx.setCell ⟨w1.heap.size, i, none⟩ (.int .u64 (F i)))) := (HW.out.trans hR).setCell hs1 _
     have q0 := HNx.out.cell i hlt
     have f0 := HNx.out.free i
     clear hR hk
     go_wp2_with fail
     go_roundw
     case rel => exact ⟨i + 1, zab i, by omega, HG1, HKn, HG2⟩
     case measure => simp [intOf]; omega
    ·have he : nr = i := by omega
     subst he
     have HD := hid (HN.out.done.nums (Nat.le_trans HW0.out.size hs1) (by omega))
     go_wp2_with fail
     go_ret
     exact ⟨HW0.out.trans HW.out, _, rfl, HD.out⟩
  ·have k1 : ¬ (nr : Int) = (no : Int) := by omega
   have k2 : ((nr : Int) != (no : Int)) = true := by simp; omega
   have HN : Hid ((if (true && decide (nr = no)) = true then no else 0) = 0) := by unfold Hid; simp [hn]
   clear hO hR h4 hr hP HG0
   rw [HN.out]
   go_enter func20, ntmps20
   go_upto_region 1 with fail
   generalize w.alloc (.cells (gc P Q G H a n cap) 25) = W at *
   go_wp2_with (go_at_call 50; refine (HOr.out _ HW0.out).mono ?_; rintro e w1 ⟨rfl, o1⟩)
   go_ret
   exact zfo _ (HW0.out.trans o1)
theorem ssecond_any (P Q G H : Int) (a : OA) (n cap : Nat) (bo : OA) (no co : Nat) (O : NI) (X : Int) (br : OA) (nr cr : Nat) (R : NI) (w : World) (h4 : Four P Q G H) (hr : Righ P Q G) (hXu : U64 X) (mo : no <= 80) (mr : nr <= 80) (hO : IntsIn w bo no O) (hR : FacsIn w br nr R) :
  Calls prog 22 #[gv P Q G H a n cap, .slice bo no co, .int .u64 X, .slice br nr cr] w (GivL w (if ordB no O && decide (nr = no) then no else 0) (fun i => comI P Q G H (powI X (O i + 1) Q) (R i))) := by
 have HX := hid hR
 have HZ := lain1 w (gc P Q G H a n cap) 25
 have HG0 := fun w' ho => (HZ.then (W' := w') ho).row 0 (by simp)
 have HW0 := hid HZ.old
 have HOr := hid fun wx (ho : Old w wx) => zfA bo no co O wx (by omega) (hO.old ho)
 cases ho : ordB no O with
 | false =>
  rw [ho] at HOr
  clear ho hO hR h4 hr HG0
  go_enter func22, ntmps22
  go_upto_region 1 with fail
  generalize w.alloc (.cells (gc P Q G H a n cap) 25) = W at *
  go_wp2_with (go_at_call 50; refine (HOr.out _ HW0.out).mono ?_; rintro e w1 ⟨rfl, o1⟩)
  go_ret
  exact zfo _ (HW0.out.trans o1)
 | true =>
  rw [ho] at HOr
  have hP := zaA.1 ho
  clear ho
  by_cases hn : nr = no
  ·subst hn
   have HB : Hid (∀ i, i < nr -> 0 <= O i /\ O i < 1000) := fun i hi => by have := hP.2.1 i hi; omega
   have m0 : 0 < nr := hP.1
   have HCo := hid fun wx (hx : Old w wx) => zfy bo nr co O wx mr (hO.old hx) HB.out
   have HUj : Hid (∀ i, i < nr -> U64 (O i + 1)) := fun i hi => by have := HB.out i hi; exact ⟨by omega, by omega⟩
   obtain ⟨F, hF⟩ : ∃ F : Nat -> Int, F = fun i => comI P Q G H (powI X (O i + 1) Q) (R i) := ⟨_, rfl⟩
   have HFi : Hid (∀ i, F i = comI P Q G H (powI X (O i + 1) Q) (R i)) := fun i => by rw [hF]
   rw [<- hF]
   obtain ⟨K, hK0⟩ : ∃ K : Nat -> Int, K = fun i => O i + 1 := ⟨_, rfl⟩
   have HK : Hid (∀ i, K i = O i + 1) := fun i => by rw [hK0]
   have HUk : Hid (∀ i, i < nr -> U64 (K i)) := fun i hi => by rw [HK.out]; exact HUj.out i hi
   rw [<- hK0] at HCo
   have HRu := hid hR.u64
   have H4 := hid h4
   have HRi := hid hr
   clear hF hO hR h4 hr hP HB hK0 HUj
   simp only [decide_true, Bool.and_self, if_true]
   have hmk := zaP nr mr
   go_enter func22, ntmps22
   go_upto_region 1 with fail
   generalize w.alloc (.cells (gc P Q G H a n cap) 25) = W at *
   have HG := hid HG0
   clear HG0
   go_upto_region 3 with (go_at_call 50; refine (HOr.out _ HW0.out).mono ?_; rintro e w1 ⟨rfl, o1⟩)
   go_upto_region 4 with fail
   have HFu := zaC w1 nr F
   have HW1 : Hid (Old W (w1.alloc (.cells (madeCells #[Value.int .u64 0] nr) 22))) := o1.alloc _
   have hs1 := o1.size
   generalize w1.alloc (.cells (madeCells #[Value.int .u64 0] nr) 22) = W1 at *
   go_upto_region 5 with (go_at_call 58; refine (HCo.out _ (HW0.out.trans HW1.out)).mono ?_; rintro e w2 ⟨o2, bk, hbk, rfl, hful⟩; have HK2 : Hid (Full w2 bk nr K) := hful; have HFu2 : Hid (Full w2 w1.heap.size nr (upTo 0 F)) := HFu.old o2; have HW2 : Hid (Old W w2) := HW1.out.trans o2; have hne : bk ≠ w1.heap.size := (by have := HFu.lt; omega); clear hful o2)
   go_loopw [28] (fun iv wx => ∃ i : Nat, iv = .int .i64 (i : Int) /\ i <= nr /\ Hid (Full wx w1.heap.size nr (upTo i F)) /\ Hid (Full wx bk nr K) /\ Hid (Old W wx)) (fun iv _ => nr - (intOf iv).toNat)
   case atStart => exact ⟨0, rfl, Nat.zero_le _, HFu2, HK2, HW2⟩
   case round =>
    obtain ⟨i, rfl, hi1, HN, HKx, HW⟩ := hrel
    by_cases hlt : i < nr
    ·rcases HX.out with h0 | ⟨bx, ox, hqx, _, hrx⟩
     ·omega
     have HR := hid fun wx (hx : Old wr wx) => ((HW0.out.trans HW.out).trans hx).cellOf (hrx i hlt).1
     have HGr := hid fun wx (hx : Old wr wx) => HG.out _ (HW.out.trans hx)
     clear hrx
     subst hqx
     have ck := HKx.out.cell i hlt
     go_upto_region 7 with fail
     refine zaa 14 [.k (.slice (some ⟨w1.heap.size, 0, none⟩) nr nr), .k (.int .i64 (i : Int)), .k (gv P Q G H a n cap), .k (.int .u64 X), .k (.int .u64 (K i)), .k (.pointer (some ⟨w.heap.size, 1, none⟩)), .k (.int .u64 Q), .k (.int .u64 (powI X (K i) Q)), .k (.slice (some ⟨bx, ox, none⟩) nr cr), .k (.int .i64 (i : Int)), .k (.pointer (some ⟨bx, ox + i, none⟩)), .k (.int .u64 (R i)), .k (.int .u64 (F i)), .k (.pointer (some ⟨w1.heap.size, i, none⟩))] (Old wr) (by kernel_rfl) (by kernel_rfl) rfl ((Old.refl _).drew) ?st ?_
     case st =>
      refine .p <| .p <| .c (sts U25 HGr.out) <| .p <| .p <| .p <| .c (stf 1 U22 HGr.out) <| .c (stK old_R func61 (fun wx _ => zdZ X (K i) Q hXu (HUk.out i hlt) wx)) <| .p <| .p <| .c (sti (c := cr) hlt U29) <| .c (stl U22 HR.out) <| .c (stK old_R func59 (fun wx _ => by rw [HFi.out, <- HK.out]; exact zeE P Q G H a n cap _ (R i) wx H4.out HRi.out (zbi _ _ _) (HRu.out i hlt))) <| .c (sti0 (c := nr) hlt U29) .n
     intro t wx hR hk
     simp only [fill, Ent.val, Ls0, Ls1, Ld1, Ld0, Ldn]
     have HNx := hid (HN.out.old hR)
     have HG1 := hid HNx.out.next
     have HKn : Hid (Full (wx.setCell ⟨w1.heap.size, i, none⟩ (.int .u64 (F i))) bk nr K) := (HKx.out.old hR).other (p := ⟨w1.heap.size, i, none⟩) hne _
     have HG2 : Hid (Old W (wx.setCell ⟨w1.heap.size, i, none⟩ (.int .u64 (F i)))) := (HW.out.trans hR).setCell hs1 _
     have q0 := HNx.out.cell i hlt
     have f0 := HNx.out.free i
     clear hR hk
     go_wp2_with fail
     go_roundw
     case rel => exact ⟨i + 1, zab i, by omega, HG1, HKn, HG2⟩
     case measure => simp [intOf]; omega
    ·have he : nr = i := by omega
     subst he
     have HD := hid (HN.out.done.nums (Nat.le_trans HW0.out.size hs1) (by omega))
     go_wp2_with fail
     go_ret
     exact ⟨HW0.out.trans HW.out, _, rfl, HD.out⟩
  ·have k1 : ¬ (nr : Int) = (no : Int) := by omega
   have k2 : ((nr : Int) != (no : Int)) = true := by simp; omega
   have HN : Hid ((if (true && decide (nr = no)) = true then no else 0) = 0) := by unfold Hid; simp [hn]
   clear hO hR h4 hr hP HG0
   rw [HN.out]
   go_enter func22, ntmps22
   go_upto_region 1 with fail
   generalize w.alloc (.cells (gc P Q G H a n cap) 25) = W at *
   go_wp2_with (go_at_call 50; refine (HOr.out _ HW0.out).mono ?_; rintro e w1 ⟨rfl, o1⟩)
   go_ret
   exact zfo _ (HW0.out.trans o1)
theorem zbM (C : NN) (j k : Nat) (hk : k < 6) : flatF C (6 * j + k) = C j k := by
 unfold flatF
 rw [show (6 * j + k) / 6 = j by omega, show (6 * j + k) % 6 = k by omega]
theorem make6_run (n : Nat) (h : n <= 1000) (w : World) : (Instr.makeSlice 29 (.int .i64 0) (.int .i64 (6 * (n : Int)))).run prog w = .ok (.slice (some ⟨w.heap.size, 0, none⟩) 0 (6 * n)) (w.alloc (.cells (madeCells #[Value.int .u64 0] (6 * n)) 22)) := by
 obtain ⟨i, hi, hzz⟩ := Option.map_eq_some_iff.1 zbj
 simp only [Prod.mk.injEq] at hzz
 obtain ⟨hz, hs, hb⟩ := hzz
 have hr := run_make (P := prog) w 29 22 i (.int .u64 0) U29 hi hz .i64 .i64 0 (6 * (n : Int)) (Int.le_refl _) (by omega) (by rw [hb]; omega) (by omega)
 have e : (6 * (n : Int)).toNat = 6 * n := by omega
 rw [e, hs, Nat.mul_one] at hr
 exact hr
theorem nums_two {w : World} {base k : Nat} {v : Value} {F : NI} {x y : Int} (h : w.ownsRow base 22 1 v (k + 2) ((List.range k).map (fun i => Value.int .u64 (F i)) ++ [.int .u64 x, .int .u64 y])) (hx : F k = x) (hy : F (k + 1) = y) : Nums w base v (k + 2) F := by
 unfold Nums
 rw [List.range_succ, List.range_succ, List.map_append, List.map_append]
 simpa [hx, hy] using h
theorem zfP (b : OA) (m c : Nat) (C : NN) (w : World) (hm : m <= 1000) (h : BoxsIn w b m C) :
  Calls prog 104 #[.slice b m c] w (GivL w (6 * m) (flatF C)) := by
 obtain ⟨i0, hi0, hz0, hz1, hz2⟩ := info_parts zbj
 have HX : Hid (BoxsIn w b m C) := h
 clear h
 have hmk := make6_run m hm
 have HO0 : Hid (Nums (w.alloc (.cells (madeCells #[Value.int .u64 0] (6 * m)) 22)) w.heap.size (.slice (some ⟨w.heap.size, 0, none⟩) 0 (6 * m)) 0 (flatF C)) := World.ownsRow_made w _ (6 * m) (Nat.le_refl _) (by unfold maxLen; omega) (by rw [size_madeCells]; omega)
 have HW0 : Hid (Old w (w.alloc (.cells (madeCells #[Value.int .u64 0] (6 * m)) 22))) := (Old.refl _).alloc _
 go_enter func104, ntmps104
 go_upto_region 2 with fail
 generalize w.alloc (.cells (madeCells #[Value.int .u64 0] (6 * m)) 22) = W1 at *
 go_upto_region 3 with fail
 go_loopw [3, 14] (fun v iv wx => ∃ i : Nat, iv = .int .i64 (i : Int) /\ i <= m /\ Hid (Nums wx w.heap.size v (6 * i) (flatF C)) /\ Hid (Old w wx)) (fun _ iv _ => m - (intOf iv).toNat)
 case atStart => exact ⟨0, rfl, Nat.zero_le _, HO0, HW0⟩
 case round =>
  obtain ⟨i, rfl, hi, HV, HO⟩ := hrel
  by_cases hlt : i < m
  ·rcases HX.out.old HO.out with h0 | ⟨bx, ox, hqx, _, hrx⟩
   ·omega
   have c0 : wr.cell? ⟨bx, ox + i * 6, none⟩ = some (.int .u64 (C i 0)) := (hrx i hlt 0 (by omega)).1
   have c1 := (hrx i hlt 1 (by omega)).1
   have c2 := (hrx i hlt 2 (by omega)).1
   have c3 := (hrx i hlt 3 (by omega)).1
   have c4 := (hrx i hlt 4 (by omega)).1
   have c5 := (hrx i hlt 5 (by omega)).1
   clear hrx
   subst hqx
   have HU : Hid (∀ k, k < 3 -> flatF C (6 * i + 2 * k) = tri7 (C i 0) (C i 2) (C i 4) k /\ flatF C (6 * i + 2 * k + 1) = tri7 (C i 1) (C i 3) (C i 5) k) := fun k hk => by
    rw [zbM C i (2 * k) (by omega), Nat.add_assoc, zbM C i (2 * k + 1) (by omega)]
    match k, hk with
    | 0, _ => exact ⟨rfl, rfl⟩
    | 1, _ => exact ⟨rfl, rfl⟩
    | 2, _ => exact ⟨rfl, rfl⟩
   generalize C i 0 = x0 at *
   generalize C i 1 = x1 at *
   generalize C i 2 = x2 at *
   generalize C i 3 = x3 at *
   generalize C i 4 = x4 at *
   generalize C i 5 = x5 at *
   go_upto_region 5 with fail
   have HVa : Hid (Nums (wr.alloc (.cells #[.int .u64 x0, .int .u64 x1, .int .u64 x2, .int .u64 x3, .int .u64 x4, .int .u64 x5] 74)) w.heap.size u3 (6 * i) (flatF C)) := HV.out.old ((Old.refl _).alloc _)
   have HOa : Hid (Old w (wr.alloc (.cells #[.int .u64 x0, .int .u64 x1, .int .u64 x2, .int .u64 x3, .int .u64 x4, .int .u64 x5] 74))) := HO.out.alloc _
   go_upto_region 6 with fail
   generalize wr.alloc (.cells #[.int .u64 x0, .int .u64 x1, .int .u64 x2, .int .u64 x3, .int .u64 x4, .int .u64 x5] 74) = Wb at *
   go_loopw [3, 19] (fun v sv wx => ∃ k : Nat, sv = .int .i64 (k : Int) /\ k <= 3 /\ Hid (Nums wx w.heap.size v (6 * i + 2 * k) (flatF C)) /\ Hid (Old w wx)) (fun _ sv _ => 3 - (intOf sv).toNat)
   case atStart => exact ⟨0, rfl, Nat.zero_le _, HVa, HOa⟩
   case round =>
    obtain ⟨k, rfl, hk, HV2, HO2⟩ := hrel
    by_cases hkl : k < 3
    ·have hU := HU.out k hkl
     have hbx := box_at x0 x1 x2 x3 x4 x5 k hkl
     generalize tri7 x0 x2 x4 k = xu at *
     generalize tri7 x1 x3 x5 k = xv at *
     have HU1 : Hid (flatF C (6 * i + 2 * k) = xu) := hU.1
     have HU2 : Hid (flatF C (6 * i + 2 * k + 1) = xv) := hU.2
     clear hU
     have k1 : (k : Int) < 3 := by omega
     go_upto_region 8 with fail
     have HVp : Hid (Nums (wr.alloc (.cells #[.int .u64 xu, .int .u64 xv] 69)) w.heap.size u3 (6 * i + 2 * k) (flatF C)) := HV2.out.old ((Old.refl _).alloc _)
     have HOp : Hid (Old w (wr.alloc (.cells #[.int .u64 xu, .int .u64 xv] 69))) := HO2.out.alloc _
     have e0 : (wr.alloc (.cells #[.int .u64 xu, .int .u64 xv] 69)).cell? ⟨wr.heap.size, 0, none⟩ = some (.int .u64 xu) := Y0 (heap_alloc_last _ _)
     have e1 : (wr.alloc (.cells #[.int .u64 xu, .int .u64 xv] 69)).cell? ⟨wr.heap.size, 1, none⟩ = some (.int .u64 xv) := Y1 (heap_alloc_last _ _)
     have hb : w.heap.size <= (wr.alloc (.cells #[.int .u64 xu, .int .u64 xv] 69)).heap.size := HOp.out.size
     generalize wr.heap.size = sp at *
     generalize wr.alloc (.cells #[.int .u64 xu, .int .u64 xv] 69) = Wp at *
     go_wp2_with (at_builtin; refine wpList_append_own _ rfl _ _ 29 rfl w.heap.size 22 i0 (.int .u64 0) 1 8 U29 hi0 hz0 hz1 hz2 rfl (by decide) _ _ _ rfl (World.ownsRow.alloc HVp.out _) ⟨Wp.heap.size, 0, none⟩ 2 2 [.int .u64 xu, .int .u64 xv] rfl rfl ?c1 ?c2 ?c3 ?c4 ?c5 ?_)
     case c1 => exact World.news_of_block (heap_alloc_last _ _)
     case c2 => intro u hu; simp at hu; rcases hu with rfl | rfl <;> rfl
     case c3 => unfold maxLen; omega
     case c4 => omega
     case c5 => simp; omega
     intro v' w1 hown' hgrow hne
     have HV3 : Hid (Nums w1 w.heap.size v' (6 * i + 2 * (k + 1)) (flatF C)) := nums_two (k := 6 * i + 2 * k) hown' HU1.out HU2.out
     have HO3 : Hid (Old w w1) := zcj HOp.out HVp.out hgrow
     clear hown' hgrow hne
     go_wp2_with fail
     go_roundw
     case rel => exact ⟨k + 1, zab k, by omega, HV3, HO3⟩
     case measure => simp [intOf]; omega
    ·have hk3 : k = 3 := by omega
     subst hk3
     have HV3 : Hid (Nums wr w.heap.size u3 (6 * (i + 1)) (flatF C)) := by have := HV2.out; rwa [show 6 * i + 2 * 3 = 6 * (i + 1) by omega] at this
     go_wp2_with fail
     go_roundw
     case rel => exact ⟨i + 1, zab i, by omega, HV3, HO2⟩
     case measure => simp [intOf]; omega
  ·have he : m = i := by omega
   subst he
   go_wp2_with fail
   go_ret
   exact ⟨HO.out, _, rfl, HV.out⟩
def batB (P Q : Int) (n : Nat) (C : NN) : Bool := cnt8 n && elB P Q (6 * n) (flatF C)
theorem zaK {P Q : Int} {n : Nat} {C : NN} : batB P Q n C = true ↔ (1 <= n /\ n <= 8) /\ ∀ j, j < n -> ∀ k, k < 6 -> inI P Q (C j k) = true := by
 unfold batB
 rw [Bool.and_eq_true_iff, cnt8_iff, zaZ]
 refine and_congr_right fun _ => ⟨fun h j hj k hk => ?_, fun h i hi => h _ (by omega) _ (Nat.mod_lt _ (by omega))⟩
 have := h (6 * j + k) (by omega)
 rwa [zbM C j k hk] at this
theorem flat_u64 {w : World} {b : OA} {n : Nat} {C : NN} (h : BoxsIn w b n C) : ∀ i, i < 6 * n -> U64 (flatF C i) := fun i hi => h.u64 (by omega) (Nat.mod_lt _ (by omega))
def numL8 (base k : Nat) (F : NI) : Ent := .u (fun v w => Nums w base v k F) fun _ _ _ h ho => h.old ho
theorem zdB (P Q G H : Int) (a : OA) (n cap : Nat) (b : OA) (m c : Nat) (C : NN) (w : World) (h4 : Four P Q G H) (hm : m <= 1000) (h : BoxsIn w b m C) :
  Calls prog 51 #[gv P Q G H a n cap, .slice b m c] w (Ret w (.bool (batB P Q m C))) := by
 have HZ := lain1 w (gc P Q G H a n cap) 25
 have HG0 := fun w' ho => (HZ.then (W' := w') ho).row 0 (by simp)
 have HW0 : Hid (Old w (w.alloc (.cells (gc P Q G H a n cap) 25))) := HZ.old
 have HCn : Hid (∀ wx, Calls prog 102 #[.int .i64 (m : Int)] wx (Ret wx (.bool (cnt8 m)))) := fun wx => (zgn m wx (by omega)).mono fun e w' ⟨h, k⟩ => ⟨h, k ▸ Old.refl _⟩
 clear HZ
 cases hc : cnt8 m with
 | true =>
  rw [hc] at HCn
  go_enter func51, ntmps51
  go_upto_region 1 with fail
  generalize w.alloc (.cells (gc P Q G H a n cap) 25) = W at *
  have HG : ∀ wx, Old W wx -> wx.heap[w.heap.size]? = some (.cells (gc P Q G H a n cap) 25 (0, 0)) := HG0
  refine zaa 10 [.k (.slice b m c), .k (.int .i64 (m : Nat)), .k (.bool true), .k (.bool true), .k (gv P Q G H a n cap), .k (.slice b m c), numL8 W.heap.size (6 * m) (flatF C), .k (.bool (elB P Q (6 * m) (flatF C))), .k (.bool (elB P Q (6 * m) (flatF C))), .k (.bool (elB P Q (6 * m) (flatF C)))] (Old W) (by kernel_rfl) (by kernel_rfl) rfl ((Old.refl _).drew) ?st ?_
  case st =>
   refine .p <| .p <| .c (stK old_R func102 (fun wx _ => HCn.out wx)) <| .p <| .c (sts U25 HG) <| .p <| .c (stC (args := fun t => #[.slice b m c]) old_R func104 (fun t wx hR _ => (zfP b m c C wx hm (h.old (HW0.out.trans hR))).mono fun r w' ⟨ho, v, hr, hN⟩ => ⟨v, hr, ho, hN.mono hR.size⟩)) <| .c (stC (args := fun t => #[gv P Q G H a n cap, t 6]) old_R func103 fun t wx hR hd => ?_) <| .p <| .c stp .n
   have hN : Nums wx W.heap.size (t 6) (6 * m) (flatF C) := hd 6 (by kernel_rfl)
   obtain ⟨b', c', e, _, hf⟩ := hN.facs (flat_u64 h)
   rw [e]
   exact (zdY P Q G H a n cap b' (6 * m) c' (flatF C) wx h4 (by omega) hf).mono fun r w' ⟨h, k⟩ => ⟨_, h, k, rfl⟩
  intro t wx hR hk
  simp only [fill, Ent.val, numL8, Ls0, Ls1, Ld1, Ld0, Ldn]
  go_wp2_with fail
  go_ret
  exact ⟨by unfold batB; rw [hc]; rfl, HW0.out.trans hR⟩
 | false =>
  rw [hc] at HCn
  go_enter func51, ntmps51
  go_upto_region 1 with fail
  generalize w.alloc (.cells (gc P Q G H a n cap) 25) = W at *
  have HG : ∀ wx, Old W wx -> wx.heap[w.heap.size]? = some (.cells (gc P Q G H a n cap) 25 (0, 0)) := HG0
  refine zaa 10 [.k (.slice b m c), .k (.int .i64 (m : Nat)), .k (.bool false), .k (.bool false), .k undef, .k undef, .k undef, .k undef, .k (.bool false), .k (.bool false)] (Old W) (by kernel_rfl) (by kernel_rfl) rfl ((Old.refl _).drew) ?st ?_
  case st =>
   refine .p <| .p <| .c (stK old_R func102 (fun wx _ => HCn.out wx)) <| .p <| .c stn <| .c stn <| .c stn <| .c stn <| .p <| .c stp .n
  intro t wx hR hk
  simp only [fill, Ent.val, Ls0, Ls1, Ld1, Ld0, Ldn]
  go_wp2_with fail
  go_ret
  exact ⟨by unfold batB; rw [hc]; rfl, HW0.out.trans hR⟩
def mixC (P Q G y : Int) (C : NN) (O : NI) (R : NN) : Nat -> Nat -> Int := fun i k => if k % 2 = 0 then mulI (C (O i).toNat k) (expI P Q G (R i (k / 2))) P else mulI (C (O i).toNat k) (expI P Q y (R i (k / 2))) P
theorem zdS (P Q G y : Int) (C : NN) (O : NI) (R : NN) (i k : Nat) : U64 (mixC P Q G y C O R i k) := by
 unfold mixC
 split <;> exact zaI _ _ _
def mixB (P Q y : Int) (m : Nat) (C : NN) (no : Nat) (O : NI) (nρ : Nat) : Bool := decide (no = m) && (decide (nρ = m) && (ordB no O && (batB P Q m C && inI P Q y)))
def BoxF (w : World) (a : OA) (n : Nat) (C : NN) : Prop :=
 n = 0 ∨ ∃ b cs, a = some ⟨b, 0, none⟩ /\ w.heap[b]? = some (.cells cs 74 (0, 0)) /\ ∀ j, j < n -> ∀ k, k < 6 -> cs[j * 6 + k]? = some (.int .u64 (C j k)) /\ U64 (C j k)
theorem BoxF.boxs {w : World} {a : OA} {n : Nat} {C : NN} (h : BoxF w a n C) : BoxsIn w a n C := by
 rcases h with h | ⟨b, cs, rfl, hb, hr⟩
 ·exact Or.inl h
 ·exact Or.inr ⟨b, 0, rfl, (Array.getElem?_eq_some_iff.1 hb).1, fun j hj k hk => ⟨by rw [Nat.zero_add, cell_of_row _ _ (j * 6 + k) _ _ (0, 0) hb]; exact (hr j hj k hk).1, (hr j hj k hk).2⟩⟩
theorem BoxF.old {w w' : World} {a : OA} {n : Nat} {C : NN} (h : BoxF w a n C) (ho : Old w w') : BoxF w' a n C := by
 rcases h with h | ⟨b, cs, rfl, hb, hr⟩
 ·exact Or.inl h
 ·exact Or.inr ⟨b, cs, rfl, (ho.block _ (Array.getElem?_eq_some_iff.1 hb).1).trans hb, hr⟩
def GivB (w : World) (ok : Bool) (m : Nat) (C : NN) (r : Ending) (w' : World) : Prop := Old w w' /\ ∃ a, r = .returned (.tuple #[.slice a (if ok then m else 0) (if ok then m else 0), .bool ok]) /\ BoxF w' a (if ok then m else 0) C
theorem zgj {w w' : World} {ok : Bool} {m : Nat} {C : NN} (hok : ok = false) (ho : Old w w') : GivB w ok m C (.returned (.tuple #[.slice none 0 0, .bool false])) w' := by
 subst hok
 exact ⟨ho, none, rfl, Or.inl rfl⟩
def bxV (p : Nat) (C : NN) : Nat -> Value := fun q => .int .u64 (upTo p (flatF C) q)
theorem boxinfo : (prog.info? 74).map (fun i => (i.zero, i.size, i.bytes)) = some (some (.agg #[.int .u64 0, .int .u64 0, .int .u64 0, .int .u64 0, .int .u64 0, .int .u64 0]), 6, 48) := by kernel_rfl
theorem makeb_run (m : Nat) (h : m <= 80) (w : World) : (Instr.makeSlice 26 (.int .i64 (m : Int)) (.int .i64 (m : Int))).run prog w = .ok (.slice (some ⟨w.heap.size, 0, none⟩) m m) (w.alloc (.cells (madeCells #[Value.int .u64 0, Value.int .u64 0, Value.int .u64 0, Value.int .u64 0, Value.int .u64 0, Value.int .u64 0] (m * 6)) 74)) := by
 obtain ⟨i, hi, hzz⟩ := Option.map_eq_some_iff.1 boxinfo
 simp only [Prod.mk.injEq] at hzz
 obtain ⟨hz, hs, hb⟩ := hzz
 have hr := run_make (P := prog) w 26 74 i _ U26 hi hz .i64 .i64 (m : Int) (m : Int) (by omega) (Int.le_refl _) (by rw [hb]; omega) (by omega)
 rw [Int.toNat_natCast, hs] at hr
 exact hr
theorem fulV_boxs {w : World} {b m : Nat} {C : NN} (h : FulV w b (m * 6) 74 (bxV (m * 6) C)) (hC : ∀ i k, U64 (C i k)) : BoxF w (some ⟨b, 0, none⟩) m C := Or.inr ⟨b, _, rfl, h, fun j hj k hk => ⟨by
 rw [List.getElem?_toArray, List.getElem?_map, List.getElem?_range (by omega)]
 show some (bxV (m * 6) C (j * 6 + k)) = _
 unfold bxV upTo
 rw [if_pos (by omega), show j * 6 + k = 6 * j + k by omega, zbM C j k hk], hC _ _⟩⟩
theorem bxV_next {w : World} {b m p : Nat} {C : NN} {x z : Int} (h : FulV w b (m * 6) 74 (bxV p C)) (hx : flatF C p = x) (hz : flatF C (p + 1) = z) : FulV ((w.setCell ⟨b, p, none⟩ (.int .u64 x)).setCell ⟨b, p + 1, none⟩ (.int .u64 z)) b (m * 6) 74 (bxV (p + 2) C) :=
 ((h.set p (.int .u64 x)).set (p + 1) (.int .u64 z)).congr fun k hk => by
  unfold bxV upTo
  by_cases h1 : k = p + 1
  ·rw [if_pos h1, if_pos (by omega), h1, hz]
  ·rw [if_neg h1]
   by_cases h2 : k = p
   ·rw [if_pos h2, if_pos (by omega), h2, hx]
   ·rw [if_neg h2]
    by_cases h3 : k < p
    ·rw [if_pos h3, if_pos (by omega)]
    ·rw [if_neg h3, if_neg (by omega)]
theorem smix_any (P Q G H : Int) (a : OA) (n cap : Nat) (y : Int) (bi : OA) (m ci : Nat) (C : NN) (bo : OA) (no co : Nat) (O : NI) (bρ : OA) (nρ cρ : Nat) (R : NN) (w : World) (h4 : Four P Q G H) (hr : Righ P Q G) (hy : U64 y) (mm : m <= 80) (mo : no <= 80) (mρ : nρ <= 80) (hC : BoxsIn w bi m C) (hO : IntsIn w bo no O) (hR : RhoIn w bρ nρ R) :
  Calls prog 15 #[gv P Q G H a n cap, .int .u64 y, .slice bi m ci, .slice bo no co, .slice bρ nρ cρ] w (GivB w (mixB P Q y m C no O nρ) m (mixC P Q G y C O R)) := by
 have HX := hid hO
 have HCx := hid hC
 have HRx := hid hR
 have HZ := lain1 w (gc P Q G H a n cap) 25
 have HG0 := fun w' ho => (HZ.then (W' := w') ho).row 0 (by simp)
 have HW0 := hid HZ.old
 have HOr := hid fun wx (ho : Old w wx) => zfA bo no co O wx (by omega) (hO.old ho)
 have HBa := hid fun wx (ho : Old w wx) => zdB P Q G H a n cap bi m ci C wx h4 (by omega) (hC.old ho)
 have HIn : Hid (∀ wx, Calls prog 52 #[gv P Q G H a n cap, .int .u64 y] wx (Ret wx (.bool (inI P Q y)))) := fun wx => gin0 P Q G H y a n cap wx h4.q0 h4.q1 hy.2
 have hcases : no ≠ m ∨ (no = m /\ nρ ≠ m) ∨ (no = m /\ nρ = m /\ ordB no O = false) ∨ (no = m /\ nρ = m /\ ordB no O = true /\ batB P Q m C = false) ∨ (no = m /\ nρ = m /\ ordB no O = true /\ batB P Q m C = true /\ inI P Q y = false) ∨ (no = m /\ nρ = m /\ ordB no O = true /\ batB P Q m C = true /\ inI P Q y = true) := by
  by_cases h1 : no = m
  ·by_cases h2 : nρ = m
   ·cases h3 : ordB no O
    ·exact Or.inr (Or.inr (Or.inl ⟨h1, h2, rfl⟩))
    ·cases h5 : batB P Q m C
     ·exact Or.inr (Or.inr (Or.inr (Or.inl ⟨h1, h2, rfl, rfl⟩)))
     ·cases h6 : inI P Q y
      ·exact Or.inr (Or.inr (Or.inr (Or.inr (Or.inl ⟨h1, h2, rfl, rfl, rfl⟩))))
      ·exact Or.inr (Or.inr (Or.inr (Or.inr (Or.inr ⟨h1, h2, rfl, rfl, rfl⟩))))
   ·exact Or.inr (Or.inl ⟨h1, h2⟩)
  ·exact Or.inl h1
 rcases hcases with h1 | ⟨h1, h2⟩ | ⟨h1, h2, h3⟩ | ⟨h1, h2, h3, h5⟩ | ⟨h1, h2, h3, h5, h6⟩ | ⟨h1, h2, h3, h5, h6⟩
 ·have k1 : ((no : Int) != (m : Int)) = true := by simp; omega
  have k2 : ¬ (no : Int) = (m : Int) := by omega
  have HN : Hid (mixB P Q y m C no O nρ = false) := by unfold Hid mixB; simp [h1]
  clear hC hO hR h4 hr
  go_enter func15, ntmps15
  go_upto_region 1 with fail
  generalize w.alloc (.cells (gc P Q G H a n cap) 25) = W at *
  have HG : Hid (∀ wx, Old W wx -> wx.heap[w.heap.size]? = some (.cells (gc P Q G H a n cap) 25 (0, 0))) := HG0
  go_wp2_with (first
   | (go_at_call 50; refine (HOr.out _ HW0.out).mono ?_; rintro e w1 ⟨rfl, o1⟩; have g1 := HG.out _ o1; have d0 := Y0 g1; have d1 := Y1 g1; have d2 := Y2 g1; have d3 := Y3 g1; have d4 := Y4 g1; clear g1)
   | (go_at_call 51; refine (HBa.out _ (HW0.out.trans o1)).mono ?_; rintro e w2 ⟨rfl, o2⟩; have g2 := HG.out _ (o1.trans o2); have d5 := Y0 g2; have d6 := Y1 g2; have d7 := Y2 g2; have d8 := Y3 g2; have d9 := Y4 g2; clear g2)
   | (go_at_call 52; refine (HIn.out _).mono ?_; rintro e w3 ⟨rfl, o3⟩))
  go_ret2
  exact zgj HN.out HW0.out
 ·have k0 : ((no : Int) != (m : Int)) = false := by simp; omega
  have k1 : ((nρ : Int) != (m : Int)) = true := by simp; omega
  have k2 : ¬ (nρ : Int) = (m : Int) := by omega
  have HN : Hid (mixB P Q y m C no O nρ = false) := by unfold Hid mixB; simp [h2]
  clear hC hO hR h4 hr
  go_enter func15, ntmps15
  go_upto_region 1 with fail
  generalize w.alloc (.cells (gc P Q G H a n cap) 25) = W at *
  have HG : Hid (∀ wx, Old W wx -> wx.heap[w.heap.size]? = some (.cells (gc P Q G H a n cap) 25 (0, 0))) := HG0
  go_wp2_with (first
   | (go_at_call 50; refine (HOr.out _ HW0.out).mono ?_; rintro e w1 ⟨rfl, o1⟩; have g1 := HG.out _ o1; have d0 := Y0 g1; have d1 := Y1 g1; have d2 := Y2 g1; have d3 := Y3 g1; have d4 := Y4 g1; clear g1)
   | (go_at_call 51; refine (HBa.out _ (HW0.out.trans o1)).mono ?_; rintro e w2 ⟨rfl, o2⟩; have g2 := HG.out _ (o1.trans o2); have d5 := Y0 g2; have d6 := Y1 g2; have d7 := Y2 g2; have d8 := Y3 g2; have d9 := Y4 g2; clear g2)
   | (go_at_call 52; refine (HIn.out _).mono ?_; rintro e w3 ⟨rfl, o3⟩))
  go_ret2
  exact zgj HN.out HW0.out
 ·subst h2
  subst h1
  rw [h3] at HOr
  have HN : Hid (mixB P Q y no C no O no = false) := by unfold Hid mixB; simp [h3]
  clear hC hO hR h4 hr h3
  go_enter func15, ntmps15
  go_upto_region 1 with fail
  generalize w.alloc (.cells (gc P Q G H a n cap) 25) = W at *
  have HG : Hid (∀ wx, Old W wx -> wx.heap[w.heap.size]? = some (.cells (gc P Q G H a n cap) 25 (0, 0))) := HG0
  go_wp2_with (first
   | (go_at_call 50; refine (HOr.out _ HW0.out).mono ?_; rintro e w1 ⟨rfl, o1⟩; have g1 := HG.out _ o1; have d0 := Y0 g1; have d1 := Y1 g1; have d2 := Y2 g1; have d3 := Y3 g1; have d4 := Y4 g1; clear g1)
   | (go_at_call 51; refine (HBa.out _ (HW0.out.trans o1)).mono ?_; rintro e w2 ⟨rfl, o2⟩; have g2 := HG.out _ (o1.trans o2); have d5 := Y0 g2; have d6 := Y1 g2; have d7 := Y2 g2; have d8 := Y3 g2; have d9 := Y4 g2; clear g2)
   | (go_at_call 52; refine (HIn.out _).mono ?_; rintro e w3 ⟨rfl, o3⟩))
  go_ret2
  exact zgj HN.out (HW0.out.trans o1)
 ·subst h2
  subst h1
  rw [h3] at HOr
  rw [h5] at HBa
  have HN : Hid (mixB P Q y no C no O no = false) := by unfold Hid mixB; simp [h5]
  clear hC hO hR h4 hr h3 h5
  go_enter func15, ntmps15
  go_upto_region 1 with fail
  generalize w.alloc (.cells (gc P Q G H a n cap) 25) = W at *
  have HG : Hid (∀ wx, Old W wx -> wx.heap[w.heap.size]? = some (.cells (gc P Q G H a n cap) 25 (0, 0))) := HG0
  go_wp2_with (first
   | (go_at_call 50; refine (HOr.out _ HW0.out).mono ?_; rintro e w1 ⟨rfl, o1⟩; have g1 := HG.out _ o1; have d0 := Y0 g1; have d1 := Y1 g1; have d2 := Y2 g1; have d3 := Y3 g1; have d4 := Y4 g1; clear g1)
   | (go_at_call 51; refine (HBa.out _ (HW0.out.trans o1)).mono ?_; rintro e w2 ⟨rfl, o2⟩; have g2 := HG.out _ (o1.trans o2); have d5 := Y0 g2; have d6 := Y1 g2; have d7 := Y2 g2; have d8 := Y3 g2; have d9 := Y4 g2; clear g2)
   | (go_at_call 52; refine (HIn.out _).mono ?_; rintro e w3 ⟨rfl, o3⟩))
  go_ret2
  exact zgj HN.out ((HW0.out.trans o1).trans o2)
 ·subst h2
  subst h1
  rw [h3] at HOr
  rw [h5] at HBa
  rw [h6] at HIn
  have HN : Hid (mixB P Q y no C no O no = false) := by unfold Hid mixB; simp [h6]
  clear hC hO hR h4 hr h3 h5 h6
  go_enter func15, ntmps15
  go_upto_region 1 with fail
  generalize w.alloc (.cells (gc P Q G H a n cap) 25) = W at *
  have HG : Hid (∀ wx, Old W wx -> wx.heap[w.heap.size]? = some (.cells (gc P Q G H a n cap) 25 (0, 0))) := HG0
  go_wp2_with (first
   | (go_at_call 50; refine (HOr.out _ HW0.out).mono ?_; rintro e w1 ⟨rfl, o1⟩; have g1 := HG.out _ o1; have d0 := Y0 g1; have d1 := Y1 g1; have d2 := Y2 g1; have d3 := Y3 g1; have d4 := Y4 g1; clear g1)
   | (go_at_call 51; refine (HBa.out _ (HW0.out.trans o1)).mono ?_; rintro e w2 ⟨rfl, o2⟩; have g2 := HG.out _ (o1.trans o2); have d5 := Y0 g2; have d6 := Y1 g2; have d7 := Y2 g2; have d8 := Y3 g2; have d9 := Y4 g2; clear g2)
   | (go_at_call 52; refine (HIn.out _).mono ?_; rintro e w3 ⟨rfl, o3⟩))
  go_ret2
  exact zgj HN.out (((HW0.out.trans o1).trans o2).trans o3)
 ·subst h2
  subst h1
  rw [h3] at HOr
  rw [h5] at HBa
  rw [h6] at HIn
  have HOk : mixB P Q y no C no O no = true := by unfold mixB; simp [h3, h5, h6]
  rw [HOk]
  have HPo := hid (zaA.1 h3)
  have HBi := hid ((zaK.1 h5).2)
  have H4 := hid h4
  have HRi := hid hr
  have HIy := hid h6
  obtain ⟨D, hD⟩ : ∃ D : Nat -> Nat -> Int, D = mixC P Q G y C O R := ⟨_, rfl⟩
  have HDe := hid hD
  rw [<- hD]
  clear hD HOk hC hO hR h4 hr h3 h5 h6
  have hmk := makeb_run no mo
  have HF0 : ∀ wx : World, Hid (FulV (wx.alloc (.cells (madeCells #[Value.int .u64 0, Value.int .u64 0, Value.int .u64 0, Value.int .u64 0, Value.int .u64 0, Value.int .u64 0] (no * 6)) 74)) wx.heap.size (no * 6) 74 (bxV 0 D)) := fun wx => fulV_new6 wx (no * 6) _ (.int .u64 0) _ fun k _ => by simp [bxV, upTo]
  go_enter func15, ntmps15
  go_upto_region 1 with fail
  generalize w.alloc (.cells (gc P Q G H a n cap) 25) = W at *
  have HG : Hid (∀ wx, Old W wx -> wx.heap[w.heap.size]? = some (.cells (gc P Q G H a n cap) 25 (0, 0))) := HG0
  clear HG0
  go_upto_region 4 with (first
   | (go_at_call 50; refine (HOr.out _ HW0.out).mono ?_; rintro e w1 ⟨rfl, o1⟩; have g1 := HG.out _ o1; have d0 := Y0 g1; have d1 := Y1 g1; have d2 := Y2 g1; have d3 := Y3 g1; have d4 := Y4 g1; clear g1)
   | (go_at_call 51; refine (HBa.out _ (HW0.out.trans o1)).mono ?_; rintro e w2 ⟨rfl, o2⟩; have g2 := HG.out _ (o1.trans o2); have d5 := Y0 g2; have d6 := Y1 g2; have d7 := Y2 g2; have d8 := Y3 g2; have d9 := Y4 g2; clear g2)
   | (go_at_call 52; refine (HIn.out _).mono ?_; rintro e w3 ⟨rfl, o3⟩))
  have HW3 : Hid (Old W w3) := (o1.trans o2).trans o3
  clear o1 o2 o3 d0 d1 d2 d3 d4 d5 d6 d7 d8 d9
  go_upto_region 5 with fail
  have HF1 := HF0 w3
  have HW4 : Hid (Old W (w3.alloc (.cells (madeCells #[Value.int .u64 0, Value.int .u64 0, Value.int .u64 0, Value.int .u64 0, Value.int .u64 0, Value.int .u64 0] (no * 6)) 74))) := HW3.out.alloc _
  have hs3 := HW3.out.size
  generalize w3.alloc (.cells (madeCells #[Value.int .u64 0, Value.int .u64 0, Value.int .u64 0, Value.int .u64 0, Value.int .u64 0, Value.int .u64 0] (no * 6)) 74) = W4 at *
  generalize w3.heap.size = bl at *
  clear HF0 hmk
  go_upto_region 6 with fail
  go_loopw [51] (fun iv wx => ∃ i : Nat, iv = .int .i64 (i : Int) /\ i <= no /\ Hid (FulV wx bl (no * 6) 74 (bxV (i * 6) D)) /\ Hid (Old W wx)) (fun iv _ => no - (intOf iv).toNat)
  case atStart => exact ⟨0, rfl, Nat.zero_le _, by rw [Nat.zero_mul]; exact HF1, HW4⟩
  case round =>
   obtain ⟨i, rfl, hi, HN, HO⟩ := hrel
   by_cases hlt : i < no
   ·rcases HX.out with h0 | ⟨bx, ox, hqx, _, hrx⟩
    ·omega
    have cx := (HW0.out.trans HO.out).cellOf (hrx i hlt).1
    have hp := HPo.out.2.1 i hlt
    obtain ⟨p, hpe⟩ : ∃ p : Nat, O i = (p : Int) := ⟨(O i).toNat, by omega⟩
    have HPe : Hid ((O i).toNat = p) := by unfold Hid; omega
    rw [hpe] at cx hp
    have hpn : p < no := by omega
    clear hpe hp hrx
    subst hqx
    rcases HCx.out with h0 | ⟨bc, oc, hqc, _, hrc⟩
    ·omega
    have hcc : ∀ k, k < 6 -> wr.cell? ⟨bc, oc + p * 6 + k, none⟩ = some (.int .u64 (C p k)) /\ U64 (C p k) := fun k hk => ⟨(HW0.out.trans HO.out).cellOf (hrc p hpn k hk).1, (hrc p hpn k hk).2⟩
    have c0 : wr.cell? ⟨bc, oc + p * 6, none⟩ = some (.int .u64 (C p 0)) := (hcc 0 (by omega)).1
    have c1 := (hcc 1 (by omega)).1
    have c2 := (hcc 2 (by omega)).1
    have c3 := (hcc 3 (by omega)).1
    have c4 := (hcc 4 (by omega)).1
    have c5 := (hcc 5 (by omega)).1
    have HCu := hid fun k (hk : k < 6) => (hcc k hk).2
    have HCb := hid HN
    clear hrc hcc
    subst hqc
    go_upto_region 9 with fail
    clear c0 c1 c2 c3 c4 c5 cx
    go_loopw [60] (fun iv wx => ∃ k : Nat, iv = .int .i64 (k : Int) /\ k <= 3 /\ Hid (FulV wx bl (no * 6) 74 (bxV (i * 6 + k * 2) D)) /\ Hid (Old W wx)) (fun iv _ => 3 - (intOf iv).toNat)
    case atStart => exact ⟨0, rfl, Nat.zero_le _, by rw [Nat.zero_mul]; exact HCb, HO⟩
    case round =>
     obtain ⟨k, rfl, hk, HN2, HO2⟩ := hrel
     by_cases hkl : k < 3
     ·have k1 : (k : Int) < 3 := by omega
      have hbx := box_at (C p 0) (C p 1) (C p 2) (C p 3) (C p 4) (C p 5) k hkl
      have hU : tri7 (C p 0) (C p 2) (C p 4) k = C p (2 * k) /\ tri7 (C p 1) (C p 3) (C p 5) k = C p (2 * k + 1) := by
       match k, hkl with
       | 0, _ => exact ⟨rfl, rfl⟩
       | 1, _ => exact ⟨rfl, rfl⟩
       | 2, _ => exact ⟨rfl, rfl⟩
      rw [hU.1, hU.2] at hbx
      have HUu : Hid (U64 (C p (2 * k))) := HCu.out _ (by omega)
      have HVu : Hid (U64 (C p (2 * k + 1))) := HCu.out _ (by omega)
      have HDu : Hid (D i (2 * k) = mulI (C p (2 * k)) (expI P Q G (R i k)) P) := by
       unfold Hid; rw [HDe.out]; unfold mixC; rw [if_pos (by omega), HPe.out, show 2 * k / 2 = k by omega]
      have HDv : Hid (D i (2 * k + 1) = mulI (C p (2 * k + 1)) (expI P Q y (R i k)) P) := by
       unfold Hid; rw [HDe.out]; unfold mixC; rw [if_neg (by omega), HPe.out, show (2 * k + 1) / 2 = k by omega]
      rcases HRx.out with h0 | ⟨by_, oy, hqy, _, hry⟩
      ·omega
      have HRu := hid ((hry i hlt k hkl).2)
      have HRc0 := hid fun wx (hx : Old wr wx) => ((HW0.out.trans HO2.out).trans hx).cellOf (hry i hlt k hkl).1
      clear hry
      subst hqy
      clear hU
      generalize C p (2 * k) = xu at *
      generalize C p (2 * k + 1) = xv at *
      have HWp : Hid (Old wr (wr.alloc (.cells #[.int .u64 xu, .int .u64 xv] 69))) := (Old.refl _).alloc _
      have HPr0 : (wr.alloc (.cells #[.int .u64 xu, .int .u64 xv] 69)).heap[wr.heap.size]? = some (.cells #[.int .u64 xu, .int .u64 xv] 69 (0, 0)) := heap_alloc_last _ _
      go_upto_region 11 with fail
      generalize wr.heap.size = sp at *
      generalize wr.alloc (.cells #[.int .u64 xu, .int .u64 xv] 69) = Wp at *
      have HPr := hid fun wx (hx : Old Wp wx) => (hx.block _ (Array.getElem?_eq_some_iff.1 HPr0).1).trans HPr0
      have HRc := hid fun wx (hx : Old Wp wx) => HRc0.out _ (HWp.out.trans hx)
      have HGr := hid fun wx (hx : Old Wp wx) => HG.out _ ((HO2.out.trans HWp.out).trans hx)
      clear HPr0 HRc0 hbx
      refine zaa 15 [.k (.slice (some ⟨bl, 0, none⟩) no no), .k (.int .i64 (i : Int)), .k (.int .i64 (k : Int)), .k (gv P Q G H a n cap), .k (.int .u64 y), .k (pv xu xv), .k (.slice (some ⟨by_, oy, none⟩) no cρ), .k (.int .i64 (i : Int)), .k (.int .i64 (k : Int)), .k (.pointer (some ⟨by_, oy + i * 3, none⟩)), .k (.pointer (some ⟨by_, oy + i * 3 + k, none⟩)), .k (.int .u64 (R i k)), .k (pv (D i (2 * k)) (D i (2 * k + 1))), .k (.pointer (some ⟨bl, i * 6, none⟩)), .k (.pointer (some ⟨bl, i * 6 + k * 2, none⟩))] (Old Wp) (by kernel_rfl) (by kernel_rfl) rfl ((Old.refl _).drew) ?st ?_
      case st =>
       refine .p <| .p <| .p <| .c (sts U25 HGr.out) <| .p <| .c (sts U69 HPr.out) <| .p <| .p <| .p <| .c (stj (n := no) (c := cρ) 3 hlt U28) <| .c (sai hkl U63) <| .c (stl U22 HRc.out) <| .c (stK old_R func53 (fun wx _ => by rw [HDu.out, HDv.out]; exact gagain_any P Q G H a n cap y xu xv (R i k) wx H4.out HRi.out hy HUu.out HVu.out HRu.out)) <| .c (stj0 (n := no) (c := no) 6 hlt U26) <| .c (saj 2 hkl U74) .n
      intro t wx hR hk
      simp only [fill, Ent.val, Ls0, Ls1, Ld1, Ld0, Ldn]
      have HNx := HN2.out.old (HWp.out.trans hR)
      have HG1 : Hid (FulV ((wx.setCell ⟨bl, i * 6 + k * 2, none⟩ (.int .u64 (D i (2 * k)))).setCell ⟨bl, i * 6 + k * 2 + 1, none⟩ (.int .u64 (D i (2 * k + 1)))) bl (no * 6) 74 (bxV (i * 6 + (k + 1) * 2) D)) := by
       have h := bxV_next HNx (x := D i (2 * k)) (z := D i (2 * k + 1)) (by rw [show i * 6 + k * 2 = 6 * i + 2 * k by omega, zbM D i (2 * k) (by omega)]) (by rw [show i * 6 + k * 2 + 1 = 6 * i + (2 * k + 1) by omega, zbM D i (2 * k + 1) (by omega)])
       rwa [show i * 6 + k * 2 + 2 = i * 6 + (k + 1) * 2 by omega] at h
      have HG2 : Hid (Old W ((wx.setCell ⟨bl, i * 6 + k * 2, none⟩ (.int .u64 (D i (2 * k)))).setCell ⟨bl, i * 6 + k * 2 + 1, none⟩ (.int .u64 (D i (2 * k + 1))))) := (((HO2.out.trans HWp.out).trans hR).setCell (p := ⟨bl, i * 6 + k * 2, none⟩) hs3 _).setCell (p := ⟨bl, i * 6 + k * 2 + 1, none⟩) hs3 _
      have q0 := HNx.cell (i * 6 + k * 2) (by omega)
      have q1 := HNx.cell (i * 6 + k * 2 + 1) (by omega)
      have f0 := HNx.free (i * 6 + k * 2)
      have f1 := HNx.free (i * 6 + k * 2 + 1)
      clear hR hk HNx HPr HRc HGr
      generalize D i (2 * k) = du at *
      generalize D i (2 * k + 1) = dv at *
      go_wp2_with fail
      go_roundw
      case rel => exact ⟨k + 1, zab k, by omega, HG1, HG2⟩
      case measure => simp [intOf]; omega
     ·have hk3 : k = 3 := by omega
      subst hk3
      have HN3 : Hid (FulV wr bl (no * 6) 74 (bxV ((i + 1) * 6) D)) := by have := HN2.out; rwa [show i * 6 + 3 * 2 = (i + 1) * 6 by omega] at this
      go_wp2_with fail
      go_roundw
      case rel => exact ⟨i + 1, zab i, by omega, HN3, HO2⟩
      case measure => simp [intOf]; omega
   ·have he : no = i := by omega
    subst he
    have HD' : Hid (BoxF wr (some ⟨bl, 0, none⟩) no D) := fulV_boxs HN.out (fun i k => by rw [HDe.out]; exact zdS _ _ _ _ _ _ _ i k)
    go_wp2_with fail
    go_ret2
    exact ⟨HW0.out.trans HO.out, _, rfl, HD'.out⟩
end
section
open Go.RowKit
structure Mixd (P Q G H X Y Z y : Int) (n : Nat) (o : Nat -> Nat) (R S T : NI) (Rho : NN) (A B Pp : NI) (Ui Vi Uo Vo : NN) : Prop where
 gr : Righ P Q G
 hin : inI P Q H = true
 yin : inI P Q y = true
 ord : Ord8 n o
 n1 : 0 < n
 y0 : 0 <= Y
 z0 : 0 <= Z
 r0 : ∀ i, i < n -> 0 <= R i
 s0 : ∀ i, i < n -> 0 <= S i
 t0 : ∀ i, i < n -> 0 <= T i
 w0 : ∀ i, i < n -> ∀ w, 0 <= Rho i w
 a : ∀ i, i < n -> A i = comI P Q G H ((o i : Int) + 1) (R i)
 b : ∀ i, i < n -> B i = comI P Q G H (bE Q X o i) (S i)
 p0 : Pp 0 = bigI P Q G (A 0) (B 0) Y Z
 p : ∀ i, i + 1 < n -> Pp (i + 1) = mulI (expI P Q (Pp i) (dE Q X Y Z o (i + 1))) (expI P Q H (T (i + 1))) P
 ui : ∀ j, j < n -> ∀ w, inI P Q (Ui j w) = true
 vi : ∀ j, j < n -> ∀ w, inI P Q (Vi j w) = true
 uo : ∀ i, i < n -> ∀ w, Uo i w = mulI (Ui (o i) w) (expI P Q G (Rho i w)) P
 vo : ∀ i, i < n -> ∀ w, Vo i w = mulI (Vi (o i) w) (expI P Q y (Rho i w)) P
section
variable {P Q G H X Y Z y : Int} {n : Nat} {o : Nat -> Nat} {R S T : NI} {Rho : NN} {A B Pp : NI} {Ui Vi Uo Vo : NN}
theorem mod_nn {a Q : Int} (hQ : 0 < Q) : 0 <= a % Q := Int.emod_nonneg _ (by omega)
theorem dE_sum {P G : Int} (h : Righ P Q G) (X Y Z : Int) (o : Nat -> Nat) (i : Nat) : (dE Q X Y Z o i + Z) % Q = (Y * ((o i : Int) + 1) + bE Q X o i) % Q := by
 unfold dE
 rw [sub_back h.okq, za4 h.okq, zak, zaw h.okq]
 exact zbJ (zak _ _) rfl
theorem uE_mod {P G : Int} (h : Righ P Q G) (Y : Int) (R S : NI) (i : Nat) : uE Q Y R S i % Q = (Y * R i + S i) % Q := by
 unfold uE
 rw [za4 h.okq, zak, zaw h.okq]
 exact zbJ (zak _ _) rfl
theorem Mixd.rowA (m : Mixd P Q G H X Y Z y n o R S T Rho A B Pp Ui Vi Uo Vo) {i : Nat} (hi : i < n) : imI P Q (row28 i G (n + i) H) (exF Q X Y Z n o R S T Rho) (7 * n + 3) = A i := by
 have h := m.gr
 have c := h.com m.hin (m := (o i : Int) + 1) (r := R i) (by omega) (m.r0 i hi)
 rw [m.a i hi]
 refine h.row28 (by have := m.n1; omega) (by omega) h.gin m.hin (fun k => zdI h.q1' k) c.1 ?_
 rw [exF_a hi, exF_r hi, c.2]
 exact zan (h.pow_mod h.gin (mod_nn h.q1') (by omega) (zak _ _)) (h.pow_mod m.hin (mod_nn h.q1') (m.r0 i hi) (zak _ _))
theorem Mixd.rowB (m : Mixd P Q G H X Y Z y n o R S T Rho A B Pp Ui Vi Uo Vo) {i : Nat} (hi : i < n) : imI P Q (row28 (2 * n + i) G (3 * n + i) H) (exF Q X Y Z n o R S T Rho) (7 * n + 3) = B i := by
 have h := m.gr
 have c := h.com m.hin (m := bE Q X o i) (r := S i) (zfU _ _ _) (m.s0 i hi)
 rw [m.b i hi]
 refine h.row28 (by have := m.n1; omega) (by omega) h.gin m.hin (fun k => zdI h.q1' k) c.1 ?_
 rw [exF_b hi, exF_s hi, c.2]
 exact zan rfl (h.pow_mod m.hin (mod_nn h.q1') (m.s0 i hi) (zak _ _))
theorem Mixd.big (m : Mixd P Q G H X Y Z y n o R S T Rho A B Pp Ui Vi Uo Vo) {i : Nat} (hi : i < n) : inI P Q (bigI P Q G (A i) (B i) Y Z) = true /\ bigI P Q G (A i) (B i) Y Z % P = G ^ (dE Q X Y Z o i).toNat * H ^ (uE Q Y R S i).toNat % P := by
 rw [m.a i hi, m.b i hi]
 exact m.gr.big m.hin (by omega) (m.r0 i hi) (zfU _ _ _) (m.s0 i hi) m.y0 m.z0 (zcS _ _ _) (zbZ _ _ _).1 (dE_sum m.gr X Y Z o i) (uE_mod m.gr Y R S i)
theorem Mixd.rowD (m : Mixd P Q G H X Y Z y n o R S T Rho A B Pp Ui Vi Uo Vo) {i : Nat} (hi : i < n) : imI P Q (row28 (4 * n + i) G (5 * n + i) H) (exF Q X Y Z n o R S T Rho) (7 * n + 3) = bigI P Q G (A i) (B i) Y Z := by
 have h := m.gr
 have c := m.big hi
 refine h.row28 (by have := m.n1; omega) (by omega) h.gin m.hin (fun k => zdI h.q1' k) c.1 ?_
 rw [exF_d hi, exF_u hi, c.2]
theorem Mixd.pp (m : Mixd P Q G H X Y Z y n o R S T Rho A B Pp Ui Vi Uo Vo) : ∀ i, i < n -> inI P Q (Pp i) = true /\ Pp i % P = G ^ (pr (fun j => dE Q X Y Z o j) (i + 1)).toNat * H ^ (vE Q X Y Z o R S T i).toNat % P
 | 0, hi => by
  have c := m.big hi
  rw [m.p0]
  refine ⟨c.1, c.2.trans ?_⟩
  show _ = G ^ (1 * dE Q X Y Z o 0).toNat * H ^ (uE Q Y R S 0).toNat % P
  rw [Int.one_mul]
 | i + 1, hi => by
  have ih := Mixd.pp m i (by omega)
  rw [m.p i hi]
  have hd : 0 <= dE Q X Y Z o (i + 1) := zcS _ _ _
  exact m.gr.third m.hin ih.1 hd (m.t0 _ hi) (pr_nn (i + 1) fun j _ => zcS _ _ _) (vE_nn _ _ _ _ _ _ _ _ i) ih.2 (vE_nn _ _ _ _ _ _ _ _ (i + 1)) (by
   show addI (mulI (vE Q X Y Z o R S T i) (dE Q X Y Z o (i + 1)) Q) (T (i + 1)) Q % Q = _
   rw [za4 m.gr.okq, zak, zaw m.gr.okq]
   exact zbJ (zak _ _) rfl)
theorem Mixd.rowP (m : Mixd P Q G H X Y Z y n o R S T Rho A B Pp Ui Vi Uo Vo) {i : Nat} (hi : i + 1 < n) : imI P Q (row28 (4 * n + (i + 1)) (Pp i) (6 * n + i) H) (exF Q X Y Z n o R S T Rho) (7 * n + 3) = Pp (i + 1) := by
 have h := m.gr
 have c0 := m.pp i (by omega)
 have c1 := m.pp (i + 1) hi
 refine h.row28 (by omega) (by omega) c0.1 m.hin (fun k => zdI h.q1' k) c1.1 ?_
 have hd : 0 <= dE Q X Y Z o (i + 1) := zcS _ _ _
 rw [exF_d hi, exF_t hi, m.p i hi, zbd h.ok (h.exp_cong c0.1 hd) (h.exp_cong m.hin (m.t0 _ hi))]
 exact zan rfl (h.pow_mod m.hin (mod_nn h.q1') (m.t0 _ hi) (zak _ _))
theorem Mixd.rowL (m : Mixd P Q G H X Y Z y n o R S T Rho A B Pp Ui Vi Uo Vo) {B1 : NI} (hB : ∀ k, k < 7 * n + 3 -> k ≠ 7 * n - 1 -> B1 k = 1) (hH : B1 (7 * n - 1) = H) : imI P Q B1 (exF Q X Y Z n o R S T Rho) (7 * n + 3) = overI P (Pp (n - 1)) (expI P Q G (prodI Q (kF Q X Y Z) n)) := by
 have h := m.gr
 have hn := m.n1
 have c := m.pp (n - 1) (by omega)
 rw [show n - 1 + 1 = n by omega] at c
 have hpk := h.prod_order m.ord (kF Q X Y Z)
 have hl := h.last (k := prodI Q (kF Q X Y Z) n) c.1 (pr_nn n fun j _ => zcS _ _ _) (zaL _ _ _).1 c.2 hpk
 refine h.row1 (p := 7 * n - 1) (by omega) hB (by rw [hH]; exact m.hin) (fun k _ => zdI h.q1' k) hl.1 ?_
 rw [hH, exF_v hn]
 exact hl.2
theorem pw_prod {P Q G : Int} (h : Righ P Q G) (U c : NI) : ∀ n, (∀ j, j < n -> inI P Q (U j) = true) -> (∀ j, j < n -> 0 <= c j) -> prodI P (fun j => expI P Q (U j) (c j)) n % P = pw U c n % P := fun n hU hc => h.im_cong n hU hc
theorem Mixd.rowU (m : Mixd P Q G H X Y Z y n o R S T Rho A B Pp Ui Vi Uo Vo) {w : Nat} (hw : w < 3) : imI P Q (rowS8 (2 * n) n (fun i => Uo i w) (7 * n + w) G) (exF Q X Y Z n o R S T Rho) (7 * n + 3) = prodI P (fun j => expI P Q (Ui j w) (powI X ((j : Int) + 1) Q)) n := by
 have h := m.gr
 have hn := m.n1
 have hUo : ∀ i, i < n -> inI P Q (Uo i w) = true := fun i hi => by rw [m.uo i hi]; exact h.mul_in (m.ui _ (m.ord.lt i hi) w) (h.exp_in h.gin)
 refine h.rowS8 (by omega) (by omega) hUo h.gin (fun k => zdI h.q1' k) (h.prod_in n fun j hj => h.exp_in (m.ui j hj w)) ?_
 rw [pw_prod h (fun j => Ui j w) (fun j => powI X ((j : Int) + 1) Q) n (fun j hj => m.ui j hj w) (fun j _ => zfU _ _ _), exF_w hn, zdX n (fun i hi => ⟨rfl, exF_b hi⟩)]
 refine h.mixed h.gin m.ord (U := fun j => Ui j w) (c := fun j => powI X ((j : Int) + 1) Q) (fun j _ => zfU _ _ _) (fun i hi => m.w0 i hi w) (fun i hi => ?_) (rhoE_nn _ _ _ _ _ _) (rhoE_sum h o Rho w n)
 rw [m.uo i hi]
 exact zbd h.ok rfl (h.exp_cong h.gin (m.w0 i hi w))
theorem Mixd.rowV (m : Mixd P Q G H X Y Z y n o R S T Rho A B Pp Ui Vi Uo Vo) {w : Nat} (hw : w < 3) : imI P Q (rowS8 (2 * n) n (fun i => Vo i w) (7 * n + w) y) (exF Q X Y Z n o R S T Rho) (7 * n + 3) = prodI P (fun j => expI P Q (Vi j w) (powI X ((j : Int) + 1) Q)) n := by
 have h := m.gr
 have hn := m.n1
 have hVo : ∀ i, i < n -> inI P Q (Vo i w) = true := fun i hi => by rw [m.vo i hi]; exact h.mul_in (m.vi _ (m.ord.lt i hi) w) (h.exp_in m.yin)
 refine h.rowS8 (by omega) (by omega) hVo m.yin (fun k => zdI h.q1' k) (h.prod_in n fun j hj => h.exp_in (m.vi j hj w)) ?_
 rw [pw_prod h (fun j => Vi j w) (fun j => powI X ((j : Int) + 1) Q) n (fun j hj => m.vi j hj w) (fun j _ => zfU _ _ _), exF_w hn, zdX n (fun i hi => ⟨rfl, exF_b hi⟩)]
 refine h.mixed m.yin m.ord (U := fun j => Vi j w) (c := fun j => powI X ((j : Int) + 1) Q) (fun j _ => zfU _ _ _) (fun i hi => m.w0 i hi w) (fun i hi => ?_) (rhoE_nn _ _ _ _ _ _) (rhoE_sum h o Rho w n)
 rw [m.vo i hi]
 exact zbd h.ok rfl (h.exp_cong m.yin (m.w0 i hi w))
end
end
section
open Go.RowKit
def row18 (p : Nat) (x : Int) : Nat -> Int := fun k => if k = p then x else 1
theorem row18_in {P Q G x : Int} (h : Righ P Q G) {p : Nat} (hx : inI P Q x = true) (k : Nat) : inI P Q (row18 p x k) = true := by
 unfold row18
 split
 ·exact hx
 ·exact h.one_in
section
variable (n : Nat) (A B D Pp : NI) (last : Int) (UV : NI) (G H y : Int) (Uo Vo : NN)
def tgt8 (j : Nat) : Int :=
 if j < n then A j else if j < 2 * n then B (j - n) else if j < 3 * n then D (j - 2 * n) else if j < 4 * n - 1 then Pp (j - 3 * n + 1) else if j = 4 * n - 1 then last else UV (j - 4 * n)
def bas8 (j : Nat) : Nat -> Int :=
 if j < n then row28 j G (n + j) H
 else if j < 2 * n then row28 (2 * n + (j - n)) G (3 * n + (j - n)) H
 else if j < 3 * n then row28 (4 * n + (j - 2 * n)) G (5 * n + (j - 2 * n)) H
 else if j < 4 * n - 1 then row28 (4 * n + (j - 3 * n + 1)) (Pp (j - 3 * n)) (6 * n + (j - 3 * n)) H
 else if j = 4 * n - 1 then row18 (7 * n - 1) H
 else if (j - 4 * n) % 2 = 0 then rowS8 (2 * n) n (fun i => Uo i ((j - 4 * n) / 2)) (7 * n + (j - 4 * n) / 2) G
 else rowS8 (2 * n) n (fun i => Vo i ((j - 4 * n) / 2)) (7 * n + (j - 4 * n) / 2) y
end
def uvI (P Q X : Int) (n : Nat) (Ui Vi : NN) (e : Nat) : Int :=
 if e % 2 = 0 then prodI P (fun j => expI P Q (Ui j (e / 2)) (powI X ((j : Int) + 1) Q)) n else prodI P (fun j => expI P Q (Vi j (e / 2)) (powI X ((j : Int) + 1) Q)) n
def lastI (P Q G X Y Z : Int) (n : Nat) (p : Int) : Int := overI P p (expI P Q G (prodI Q (kF Q X Y Z) n))
def tgtT (P Q G X Y Z : Int) (n : Nat) (A B Pp : NI) (Ui Vi : NN) : Nat -> Int :=
 tgt8 n A B (fun i => bigI P Q G (A i) (B i) Y Z) Pp (lastI P Q G X Y Z n (Pp (n - 1))) (uvI P Q X n Ui Vi)
theorem zfY {P Q G x z : Int} (h : Righ P Q G) {p q : Nat} (hx : inI P Q x = true) (hz : inI P Q z = true) (k : Nat) : inI P Q (row28 p x q z k) = true := by
 unfold row28
 split
 ·exact hx
 ·split
  ·exact hz
  ·exact h.one_in
theorem rowS8_in {P Q G z : Int} (h : Righ P Q G) {m n q : Nat} {W : NI} (hW : ∀ i, i < n -> inI P Q (W i) = true) (hz : inI P Q z = true) (k : Nat) : inI P Q (rowS8 m n W q z k) = true := by
 unfold rowS8
 split
 ·exact hW _ (by omega)
 ·split
  ·exact hz
  ·exact h.one_in
structure Elms (P Q G H y : Int) (n : Nat) (A B Pp : NI) (Ui Vi Uo Vo : NN) : Prop where
 gr : Righ P Q G
 hin : inI P Q H = true
 yin : inI P Q y = true
 n1 : 0 < n
 n8 : n <= 8
 a : ∀ i, i < n -> inI P Q (A i) = true
 b : ∀ i, i < n -> inI P Q (B i) = true
 p : ∀ i, i < n -> inI P Q (Pp i) = true
 ui : ∀ j, j < n -> ∀ w, w < 3 -> inI P Q (Ui j w) = true
 vi : ∀ j, j < n -> ∀ w, w < 3 -> inI P Q (Vi j w) = true
 uo : ∀ j, j < n -> ∀ w, w < 3 -> inI P Q (Uo j w) = true
 vo : ∀ j, j < n -> ∀ w, w < 3 -> inI P Q (Vo j w) = true
section
variable {P Q G H X Y Z y : Int} {n : Nat} {A B Pp : NI} {Ui Vi Uo Vo : NN}
theorem Elms.big (m : Elms P Q G H y n A B Pp Ui Vi Uo Vo) (Y Z : Int) {i : Nat} (hi : i < n) : inI P Q (bigI P Q G (A i) (B i) Y Z) = true :=
 m.gr.over_in (m.gr.mul_in (m.gr.exp_in (m.a i hi)) (m.b i hi)) (m.gr.exp_in m.gr.gin)
theorem Elms.uv (m : Elms P Q G H y n A B Pp Ui Vi Uo Vo) (X : Int) {e : Nat} (he : e < 6) : inI P Q (uvI P Q X n Ui Vi e) = true := by
 unfold uvI
 split
 ·exact m.gr.prod_in n fun j hj => m.gr.exp_in (m.ui j hj _ (by omega))
 ·exact m.gr.prod_in n fun j hj => m.gr.exp_in (m.vi j hj _ (by omega))
theorem Elms.tgt (m : Elms P Q G H y n A B Pp Ui Vi Uo Vo) (X Y Z : Int) {j : Nat} (hj : j < 4 * n + 6) : inI P Q (tgtT P Q G X Y Z n A B Pp Ui Vi j) = true := by
 have hn := m.n1
 unfold tgtT tgt8
 repeat' split
 ·exact m.a _ (by omega)
 ·exact m.b _ (by omega)
 ·exact m.big _ _ (by omega)
 ·exact m.p _ (by omega)
 ·exact m.gr.over_in (m.p _ (by omega)) (m.gr.exp_in m.gr.gin)
 ·exact m.uv X (by omega)
theorem Elms.bas (m : Elms P Q G H y n A B Pp Ui Vi Uo Vo) {j : Nat} (hj : j < 4 * n + 6) (k : Nat) : inI P Q (bas8 n Pp G H y Uo Vo j k) = true := by
 have hn := m.n1
 unfold bas8
 repeat' split
 ·exact zfY m.gr m.gr.gin m.hin k
 ·exact zfY m.gr m.gr.gin m.hin k
 ·exact zfY m.gr m.gr.gin m.hin k
 ·exact zfY m.gr (m.p _ (by omega)) m.hin k
 ·exact row18_in m.gr m.hin k
 ·exact rowS8_in m.gr (fun i hi => m.uo i hi _ (by omega)) m.gr.gin k
 ·exact rowS8_in m.gr (fun i hi => m.vo i hi _ (by omega)) m.yin k
theorem Elms.claim (m : Elms P Q G H y n A B Pp Ui Vi Uo Vo) (X Y Z : Int) : IsClaim P Q (4 * n + 6) (tgtT P Q G X Y Z n A B Pp Ui Vi) (4 * n + 6) (fun _ => 7 * n + 3) (bas8 n Pp G H y Uo Vo) (7 * n + 3) :=
 ⟨by omega, by have := m.n8; omega, rfl, by omega, by have := m.n8; omega, fun _ _ => rfl, fun j hj => m.tgt X Y Z hj, fun j hj i _ => m.bas hj i⟩
end
section
variable {P Q G H X Y Z y : Int} {n : Nat} {o : Nat -> Nat} {R S T : NI} {Rho : NN} {A B Pp : NI} {Ui Vi Uo Vo : NN}
theorem Mixd.elms (m : Mixd P Q G H X Y Z y n o R S T Rho A B Pp Ui Vi Uo Vo) (hn : n <= 8) : Elms P Q G H y n A B Pp Ui Vi Uo Vo := by
 have h := m.gr
 refine ⟨h, m.hin, m.yin, m.n1, hn, fun i hi => ?_, fun i hi => ?_, fun i hi => (m.pp i hi).1, fun j hj w _ => m.ui j hj w, fun j hj w _ => m.vi j hj w, fun i hi w _ => ?_, fun i hi w _ => ?_⟩
 ·rw [m.a i hi]; exact (h.com m.hin (by omega) (m.r0 i hi)).1
 ·rw [m.b i hi]; exact (h.com m.hin (zfU _ _ _) (m.s0 i hi)).1
 ·rw [m.uo i hi]; exact h.mul_in (m.ui _ (m.ord.lt i hi) w) (h.exp_in h.gin)
 ·rw [m.vo i hi]; exact h.mul_in (m.vi _ (m.ord.lt i hi) w) (h.exp_in m.yin)
theorem Mixd.holds (m : Mixd P Q G H X Y Z y n o R S T Rho A B Pp Ui Vi Uo Vo) {j : Nat} (hj : j < 4 * n + 6) : imI P Q (bas8 n Pp G H y Uo Vo j) (exF Q X Y Z n o R S T Rho) (7 * n + 3) = tgtT P Q G X Y Z n A B Pp Ui Vi j := by
 have hn := m.n1
 unfold bas8 tgtT tgt8
 by_cases h1 : j < n
 ·rw [if_pos h1, if_pos h1]
  exact m.rowA h1
 rw [if_neg h1, if_neg h1]
 by_cases h2 : j < 2 * n
 ·rw [if_pos h2, if_pos h2]
  exact m.rowB (by omega)
 rw [if_neg h2, if_neg h2]
 by_cases h3 : j < 3 * n
 ·rw [if_pos h3, if_pos h3]
  exact m.rowD (by omega)
 rw [if_neg h3, if_neg h3]
 by_cases h4 : j < 4 * n - 1
 ·rw [if_pos h4, if_pos h4]
  exact m.rowP (by omega)
 rw [if_neg h4, if_neg h4]
 by_cases h5 : j = 4 * n - 1
 ·rw [if_pos h5, if_pos h5]
  exact m.rowL (fun k _ hk => if_neg hk) (if_pos rfl)
 rw [if_neg h5, if_neg h5]
 unfold uvI
 by_cases h6 : (j - 4 * n) % 2 = 0
 ·rw [if_pos h6, if_pos h6]
  exact m.rowU (by omega)
 ·rw [if_neg h6, if_neg h6]
  exact m.rowV (by omega)
end
end
section
open Go.RowKit
def hidI (Q : Int) (F : NI) (v : Int) (T : NI) : Nat -> Int
 | 0 => v
 | i + 1 => addI (mulI (hidI Q F v T i) (F (i + 1)) Q) (T (i + 1)) Q
theorem hid_u64 {Q v : Int} (hv : U64 v) (F T : NI) : ∀ i, U64 (hidI Q F v T i)
 | 0 => hv
 | _ + 1 => zba _ _ _
def bakI (Q : Int) (B : NI) (R : NN) (w : Nat) : Nat -> Int
 | 0 => 0
 | i + 1 => subI (bakI Q B R w i) (mulI (B i) (R i w) Q) Q
theorem zc2 (a b m : Int) : U64 (subI a b m) := ⟨(zec _ _ _).1, Int.le_trans (zec _ _ _).2 (by decide)⟩
theorem bak_u64 (Q : Int) (B : NI) (R : NN) (w : Nat) : ∀ i, U64 (bakI Q B R w i)
 | 0 => ⟨by show (0 : Int) <= 0; omega, by show (0 : Int) <= _; omega⟩
 | _ + 1 => zc2 _ _ _
theorem slast_any (P Q G H : Int) (a : OA) (n cap : Nat) (b1 : OA) (m c1 : Nat) (F : NI) (v0 : Int) (b2 : OA) (m2 c2 : Nat) (T : NI) (w : World) (m0 : 0 < m) (mm : m <= 80) (h2 : m <= m2) (hv : U64 v0) (h : FacsIn w b1 m F) (hT : FacsIn w b2 m2 T) :
  Calls prog 75 #[gv P Q G H a n cap, .slice b1 m c1, .int .u64 v0, .slice b2 m2 c2] w (Ret w (.int .u64 (hidI Q F v0 T (m - 1)))) := by
 have HF := hid h
 have HTT := hid hT
 have HZ := lain1 w (gc P Q G H a n cap) 25
 have HG0 := fun w' ho => (HZ.then (W' := w') ho).row 0 (by simp)
 have HW0 := hid HZ.old
 clear HZ h hT
 go_enter func75, ntmps75
 go_upto_region 1 with fail
 generalize w.alloc (.cells (gc P Q G H a n cap) 25) = W at *
 have HG := hid HG0
 clear HG0
 go_upto_region 3 with fail
 go_loopw [9, 10] (fun v iv wx => ∃ i : Nat, iv = .int .i64 ((i + 1 : Nat) : Int) /\ i + 1 <= m /\ v = .int .u64 (hidI Q F v0 T i) /\ Hid (Old W wx)) (fun _ iv _ => m - (intOf iv).toNat)
 case atStart => exact ⟨0, rfl, by omega, rfl, Old.refl _⟩
 case round =>
  obtain ⟨i, rfl, hi, rfl, HO⟩ := hrel
  by_cases hlt : i + 1 < m
  ·rcases HF.out with h0 | ⟨bx, ox, rfl, _, hrx⟩
   ·omega
   rcases HTT.out with h0 | ⟨by_, oy, rfl, _, hry⟩
   ·omega
   have HA : ∀ wx, Old wr wx -> wx.cell? ⟨bx, ox + (i + 1), none⟩ = some (.int .u64 (F (i + 1))) := fun wx hx => ((HW0.out.trans HO.out).trans hx).cellOf (hrx (i + 1) hlt).1
   have HB : ∀ wx, Old wr wx -> wx.cell? ⟨by_, oy + (i + 1), none⟩ = some (.int .u64 (T (i + 1))) := fun wx hx => ((HW0.out.trans HO.out).trans hx).cellOf (hry (i + 1) (by omega)).1
   have HGr : ∀ wx, Old wr wx -> wx.heap[w.heap.size]? = some (.cells (gc P Q G H a n cap) 25 (0, 0)) := fun wx hx => HG.out _ (HO.out.trans hx)
   have HAu := hid ((hrx (i + 1) hlt).2)
   have HBu := hid ((hry (i + 1) (by omega)).2)
   clear hrx hry
   go_upto_region 5 with fail
   refine zaa 15 [.k (.int .u64 (hidI Q F v0 T i)), .k (.slice (some ⟨bx, ox, none⟩) m c1), .k (.int .i64 ((i + 1 : Nat) : Int)), .k (.pointer (some ⟨bx, ox + (i + 1), none⟩)), .k (.int .u64 (F (i + 1))), .k (.pointer (some ⟨w.heap.size, 1, none⟩)), .k (.int .u64 Q), .k (.int .u64 (mulI (hidI Q F v0 T i) (F (i + 1)) Q)), .k (.slice (some ⟨by_, oy, none⟩) m2 c2), .k (.int .i64 ((i + 1 : Nat) : Int)), .k (.pointer (some ⟨by_, oy + (i + 1), none⟩)), .k (.int .u64 (T (i + 1))), .k (.pointer (some ⟨w.heap.size, 1, none⟩)), .k (.int .u64 Q), .k (.int .u64 (hidI Q F v0 T (i + 1)))] (Old wr) (by kernel_rfl) (by kernel_rfl) rfl ((Old.refl _).drew) ?st ?_
   case st =>
    refine .p <| .p <| .p <| .c (sti (n := m) (c := c1) (i := i + 1) hlt U29) <| .c (stl U22 HA) <| .p <| .c (stf 1 U22 HGr) <| .c (stK old_R func72 (fun wx _ => zde _ _ Q (hid_u64 hv F T i) HAu.out wx)) <| .p <| .p <| .c (sti (n := m2) (c := c2) (i := i + 1) (by omega) U29) <| .c (stl U22 HB) <| .p <| .c (stf 1 U22 HGr) <| .c (stK old_R func71 (fun wx _ => sadd_any _ _ Q (zaI _ _ _) HBu.out wx)) .n
   intro t wx hR hk
   simp only [fill, Ent.val, Ls0, Ls1, Ld1, Ld0, Ldn]
   have HO2 := hid (HO.out.trans hR)
   clear hR hk HA HB HGr
   go_wp2_with fail
   go_roundw
   case rel => exact ⟨i + 1, by simp, by omega, rfl, HO2⟩
   case measure => simp [intOf]; omega
  ·obtain ⟨q, rfl⟩ : ∃ q, m = q + 1 := ⟨m - 1, by omega⟩
   have he : q = i := by omega
   subst he
   go_wp2_with fail
   go_ret
   exact ⟨rfl, HW0.out.trans HO.out⟩
theorem sback_any (P Q G H : Int) (a : OA) (n cap : Nat) (b1 : OA) (m c1 : Nat) (B : NI) (b2 : OA) (m2 c2 : Nat) (Rh : NN) (w : World) (mm : m <= 80) (h2 : m <= m2) (h : FacsIn w b1 m B) (hR0 : RhoIn w b2 m2 Rh) :
  Calls prog 76 #[gv P Q G H a n cap, .slice b1 m c1, .slice b2 m2 c2] w (GivF w 3 (fun k => bakI Q B Rh k m)) := by
 have HB := hid h
 have HRh := hid hR0
 have HZ := lain1 w (gc P Q G H a n cap) 25
 have HG0 := fun w' ho => (HZ.then (W' := w') ho).row 0 (by simp)
 have HW0 := hid HZ.old
 clear HZ h hR0
 obtain ⟨F, hF⟩ : ∃ F : Nat -> Nat -> Int, F = fun i k => bakI Q B Rh k i := ⟨_, rfl⟩
 have HFe : Hid (∀ i k, F i k = bakI Q B Rh k i) := fun i k => by rw [hF]
 have e0 : (fun k => bakI Q B Rh k m) = F m := by rw [hF]
 rw [e0]
 clear e0 hF
 have hmk : ∀ wx, (Instr.makeSlice 29 (.int .i64 3) (.int .i64 3)).run prog wx = .ok (.slice (some ⟨wx.heap.size, 0, none⟩) 3 3) (wx.alloc (.cells (madeCells #[Value.int .u64 0] 3) 22)) := zaP 3 (by omega)
 go_enter func76, ntmps76
 go_upto_region 1 with fail
 generalize w.alloc (.cells (gc P Q G H a n cap) 25) = W at *
 have HG := hid HG0
 clear HG0
 go_upto_region 2 with fail
 have HFu := zaC W 3 (F m)
 have HW1 : Hid (Old W (W.alloc (.cells (madeCells #[Value.int .u64 0] 3) 22))) := (Old.refl W).alloc _
 generalize W.alloc (.cells (madeCells #[Value.int .u64 0] 3) 22) = W1 at *
 go_upto_region 3 with fail
 go_loopw [14] (fun iv wx => ∃ q : Nat, iv = .int .i64 (q : Int) /\ q <= 3 /\ Hid (Full wx W.heap.size 3 (upTo q (F m))) /\ Hid (Old W wx)) (fun iv _ => 3 - (intOf iv).toNat)
 case atStart => exact ⟨0, rfl, Nat.zero_le _, HFu, HW1⟩
 case round =>
  obtain ⟨q, rfl, hq, HN, HO⟩ := hrel
  by_cases hlt : q < 3
  ·have k1 : (q : Int) < 3 := by omega
   have HS0 : Hid (Full wr W.heap.size 3 (fun k => if k = q then F 0 q else upTo q (F m) k)) := HN.out.congr fun k hk => by
    by_cases hkq : k = q
    ·subst hkq
     rw [if_pos rfl, HFe.out]
     simp [upTo, bakI]
    ·rw [if_neg hkq]
   clear HN
   go_upto_region 6 with fail
   go_loopw [19] (fun iv wx => ∃ i : Nat, iv = .int .i64 (i : Int) /\ i <= m /\ Hid (Full wx W.heap.size 3 (fun k => if k = q then F i q else upTo q (F m) k)) /\ Hid (Old W wx)) (fun iv _ => m - (intOf iv).toNat)
   case atStart => exact ⟨0, rfl, Nat.zero_le _, HS0, HO⟩
   case round =>
    obtain ⟨i, rfl, hi, HN, HO⟩ := hrel
    by_cases hil : i < m
    ·rcases HB.out with h0 | ⟨bx, ox, hqx, _, hrx⟩
     ·omega
     rcases HRh.out with h0 | ⟨by_, oy, hqy, _, hry⟩
     ·omega
     have cx := (HW0.out.trans HO.out).cellOf (hrx i hil).1
     have HBu := hid ((hrx i hil).2)
     have HRu := hid ((hry i (by omega) q hlt).2)
     have HRc := hid fun wx (hx : Old wr wx) => ((HW0.out.trans HO.out).trans hx).cellOf (hry i (by omega) q hlt).1
     have HLc : Hid (∀ wx, Old wr wx -> wx.cell? ⟨W.heap.size, q, none⟩ = some (.int .u64 (F i q))) := fun wx hx => by have := (HN.out.old hx).cell q hlt; rwa [if_pos rfl] at this
     have HGr := hid fun wx (hx : Old wr wx) => HG.out _ (HO.out.trans hx)
     clear hrx hry
     subst hqx hqy
     go_upto_region 8 with fail
     refine zaa 20 [.k (.slice (some ⟨W.heap.size, 0, none⟩) 3 3), .k (.int .i64 (q : Int)), .k (.slice (some ⟨W.heap.size, 0, none⟩) 3 3), .k (.int .i64 (q : Int)), .k (.pointer (some ⟨W.heap.size, q, none⟩)), .k (.int .u64 (F i q)), .k (.int .u64 (B i)), .k (.slice (some ⟨by_, oy, none⟩) m2 c2), .k (.int .i64 (i : Int)), .k (.int .i64 (q : Int)), .k (.pointer (some ⟨by_, oy + i * 3, none⟩)), .k (.pointer (some ⟨by_, oy + i * 3 + q, none⟩)), .k (.int .u64 (Rh i q)), .k (.pointer (some ⟨w.heap.size, 1, none⟩)), .k (.int .u64 Q), .k (.int .u64 (mulI (B i) (Rh i q) Q)), .k (.pointer (some ⟨w.heap.size, 1, none⟩)), .k (.int .u64 Q), .k (.int .u64 (F (i + 1) q)), .k (.pointer (some ⟨W.heap.size, q, none⟩))] (Old wr) (by kernel_rfl) (by kernel_rfl) rfl ((Old.refl _).drew) ?st ?_
     case st =>
      refine .p <| .p <| .p <| .p <| .c (sti0 (n := 3) (c := 3) hlt U29) <| .c (stl U22 HLc.out) <| .p <| .p <| .p <| .p <| .c (stj (n := m2) (c := c2) 3 (by omega) U28) <| .c (sai hlt U63) <| .c (stl U22 HRc.out) <| .p <| .c (stf 1 U22 HGr.out) <| .c (stK old_R func72 (fun wx _ => zde _ _ Q HBu.out HRu.out wx)) <| .p <| .c (stf 1 U22 HGr.out) <| .c (stK old_R func108 (fun wx _ => by have h := ssub_any (F i q) (mulI (B i) (Rh i q) Q) Q (by rw [HFe.out]; exact bak_u64 Q B Rh q i) (zaI _ _ _) wx; rwa [show subI (F i q) (mulI (B i) (Rh i q) Q) Q = F (i + 1) q by rw [HFe.out, HFe.out]; rfl] at h)) <| .c (sti0 (n := 3) (c := 3) hlt U29) .n
     intro t wx hR hk
     simp only [fill, Ent.val, Ls0, Ls1, Ld1, Ld0, Ldn]
     have HNx := HN.out.old hR
     have q0 := HNx.cell q hlt
     have f0 := HNx.free q
     have HG1 : Hid (Full (wx.setCell ⟨W.heap.size, q, none⟩ (.int .u64 (F (i + 1) q))) W.heap.size 3 (fun k => if k = q then F (i + 1) q else upTo q (F m) k)) := (HNx.set q _).congr fun k hk => by
      by_cases hkq : k = q
      ·rw [if_pos hkq, if_pos hkq]
      ·rw [if_neg hkq, if_neg hkq, if_neg hkq]
     have HG2 : Hid (Old W (wx.setCell ⟨W.heap.size, q, none⟩ (.int .u64 (F (i + 1) q)))) := (HO.out.trans hR).setCell (Nat.le_refl _) _
     clear hR hk HNx HRc HLc HGr
     go_wp2_with fail
     go_roundw
     case rel => exact ⟨i + 1, zab i, by omega, HG1, HG2⟩
     case measure => simp [intOf]; omega
    ·have he : m = i := by omega
     subst he
     have HD : Hid (Full wr W.heap.size 3 (upTo (q + 1) (F m))) := HN.out.congr fun k hk => by
      by_cases hkq : k = q
      ·subst hkq
       simp [upTo]
      ·rw [if_neg hkq]
       unfold upTo
       by_cases h : k < q
       ·rw [if_pos h, if_pos (by omega)]
       ·rw [if_neg h, if_neg (by omega)]
     go_wp2_with fail
     go_roundw
     case rel => exact ⟨q + 1, zab q, by omega, HD, HO⟩
     case measure => simp [intOf]; omega
  ·have he : q = 3 := by omega
   subst he
   have HD := hid HN.out.done
   go_wp2_with fail
   go_ret
   exact ⟨HW0.out.trans HO.out, W.heap.size, HW0.out.size, rfl, HD.out⟩
abbrev dv (bρ : OA) (nρ cρ : Nat) (bR : OA) (nR cR : Nat) (bS : OA) (nS cS : Nat) (bT : OA) (nT cT : Nat) (bD : OA) (nD cD : Nat) : Value := .agg #[.slice bρ nρ cρ, .slice bR nR cR, .slice bS nS cS, .slice bT nT cT, .slice bD nD cD]
abbrev dvc (bρ : OA) (nρ cρ : Nat) (bR : OA) (nR cR : Nat) (bS : OA) (nS cS : Nat) (bT : OA) (nT cT : Nat) (bD : OA) (nD cD : Nat) : Array Value := #[.slice bρ nρ cρ, .slice bR nR cR, .slice bS nS cS, .slice bT nT cT, .slice bD nD cD]
def thiI (P Q G H X Y Z : Int) (A B O T : NI) : Nat -> Int
 | 0 => bigI P Q G (A 0) (B 0) Y Z
 | i + 1 => mulI (expI P Q (thiI P Q G H X Y Z A B O T i) (facI Q X Y Z (O (i + 1) + 1))) (expI P Q H (T (i + 1))) P
theorem zfN (P Q G H X Y Z : Int) (A B O T : NI) : ∀ i, U64 (thiI P Q G H X Y Z A B O T i)
 | 0 => u64_over _ _ _
 | _ + 1 => zaI _ _ _
theorem u64_fac (Q X Y Z j : Int) : U64 (facI Q X Y Z j) := zc2 _ _ _
theorem zfF (q : Nat) (h : q <= 1000) : Value.int .i64 (IntKind.i64.wrap (((q + 1 : Nat) : Int) - 1)) = .int .i64 (q : Int) := by
 rw [IntKind.wrap_i64]
 congr 1
 omega
theorem sthird_any (P Q G H : Int) (a : OA) (n cap : Nat) (bo : OA) (no co : Nat) (O : NI) (ba : OA) (na ca : Nat) (A : NI) (X : Int) (bb : OA) (nb cb : Nat) (B : NI) (Y Z : Int) (bp : OA) (np cp : Nat) (bρ : OA) (nρ cρ : Nat) (bR : OA) (nR cR : Nat) (bS : OA) (nS cS : Nat) (bT : OA) (nT cT : Nat) (T : NI) (bD : OA) (nD cD : Nat) (w : World) (h4 : Four P Q G H) (hr : Righ P Q G) (hX : U64 X) (hY : U64 Y) (hZ : U64 Z) (mo : no <= 80) (ma : na <= 80) (mb : nb <= 80) (mT : nT <= 80) (hO : IntsIn w bo no O) (hA : FacsIn w ba na A) (hB : FacsIn w bb nb B) (hT : FacsIn w bT nT T) :
  Calls prog 24 #[gv P Q G H a n cap, .slice bo no co, tk ba na ca X bb nb cb Y Z bp np cp, dv bρ nρ cρ bR nR cR bS nS cS bT nT cT bD nD cD] w (GivL w (if ordB no O && (decide (na = no) && (decide (nb = no) && decide (nT = no))) then no else 0) (thiI P Q G H X Y Z A B O T)) := by
 have HX := hid hT
 have HZ := lain3 w (gc P Q G H a n cap) (tkc ba na ca X bb nb cb Y Z bp np cp) (dvc bρ nρ cρ bR nR cR bS nS cS bT nT cT bD nD cD) 25 41 31
 have HG0 := fun w' ho => (HZ.then (W' := w') ho).row 0 (by simp)
 have HT0 := fun w' ho => (HZ.then (W' := w') ho).row 1 (by simp)
 have HD0 := fun w' ho => (HZ.then (W' := w') ho).row 2 (by simp)
 have HW0 := hid HZ.old
 have HOr := hid fun wx (ho : Old w wx) => zfA bo no co O wx (by omega) (hO.old ho)
 have hneg : ordB no O = false ∨ (ordB no O = true /\ na ≠ no) ∨ (ordB no O = true /\ na = no /\ nb ≠ no) ∨ (ordB no O = true /\ na = no /\ nb = no /\ nT ≠ no) ∨ (ordB no O = true /\ na = no /\ nb = no /\ nT = no) := by
  cases ordB no O
  ·exact Or.inl rfl
  ·by_cases h1 : na = no
   ·by_cases h2 : nb = no
    ·by_cases h3 : nT = no
     ·exact Or.inr (Or.inr (Or.inr (Or.inr ⟨rfl, h1, h2, h3⟩)))
     ·exact Or.inr (Or.inr (Or.inr (Or.inl ⟨rfl, h1, h2, h3⟩)))
    ·exact Or.inr (Or.inr (Or.inl ⟨rfl, h1, h2⟩))
   ·exact Or.inr (Or.inl ⟨rfl, h1⟩)
 rcases hneg with ho | ⟨ho, h1⟩ | ⟨ho, rfl, h2⟩ | ⟨ho, rfl, rfl, h3⟩ | ⟨ho, rfl, rfl, rfl⟩
 ·rw [ho] at HOr
  rw [ho, Bool.false_and, if_neg (by simp)]
  clear ho hO hA hB hT h4 hr
  go_enter func24, ntmps24
  go_upto_region 1 with fail
  generalize ((w.alloc (.cells (gc P Q G H a n cap) 25)).alloc (.cells (tkc ba na ca X bb nb cb Y Z bp np cp) 41)).alloc (.cells (dvc bρ nρ cρ bR nR cR bS nS cS bT nT cT bD nD cD) 31) = W at *
  have d0 := Y0 (HT0 _ (Old.refl _))
  have d2 := Y2 (HT0 _ (Old.refl _))
  have e3 := Y3 (HD0 _ (Old.refl _))
  clear HG0
  go_wp2_with (go_at_call 50; refine (HOr.out _ HW0.out).mono ?_; rintro e w1 ⟨rfl, o1⟩; have d0 := Y0 (HT0 _ o1); have d2 := Y2 (HT0 _ o1); have e3 := Y3 (HD0 _ o1))
  go_ret
  exact zfo _ (HW0.out.trans o1)
 ·rw [ho] at HOr
  have k1 : ((na : Int) != (no : Int)) = true := by simp; omega
  have k2 : ¬ (na : Int) = (no : Int) := by omega
  rw [show (ordB no O && (decide (na = no) && (decide (nb = no) && decide (nT = no)))) = false by simp [h1], if_neg (by simp)]
  clear ho hO hA hB hT h4 hr
  go_enter func24, ntmps24
  go_upto_region 1 with fail
  generalize ((w.alloc (.cells (gc P Q G H a n cap) 25)).alloc (.cells (tkc ba na ca X bb nb cb Y Z bp np cp) 41)).alloc (.cells (dvc bρ nρ cρ bR nR cR bS nS cS bT nT cT bD nD cD) 31) = W at *
  have d0 := Y0 (HT0 _ (Old.refl _))
  have d2 := Y2 (HT0 _ (Old.refl _))
  have e3 := Y3 (HD0 _ (Old.refl _))
  clear HG0
  go_wp2_with (go_at_call 50; refine (HOr.out _ HW0.out).mono ?_; rintro e w1 ⟨rfl, o1⟩; have d0 := Y0 (HT0 _ o1); have d2 := Y2 (HT0 _ o1); have e3 := Y3 (HD0 _ o1))
  go_ret
  exact zfo _ (HW0.out.trans o1)
 ·rw [ho] at HOr
  have k1 : ((nb : Int) != (na : Int)) = true := by simp; omega
  have k2 : ¬ (nb : Int) = (na : Int) := by omega
  rw [show (ordB na O && (decide (na = na) && (decide (nb = na) && decide (nT = na)))) = false by simp [h2], if_neg (by simp)]
  clear ho hO hA hB hT h4 hr
  go_enter func24, ntmps24
  go_upto_region 1 with fail
  generalize ((w.alloc (.cells (gc P Q G H a n cap) 25)).alloc (.cells (tkc ba na ca X bb nb cb Y Z bp np cp) 41)).alloc (.cells (dvc bρ nρ cρ bR nR cR bS nS cS bT nT cT bD nD cD) 31) = W at *
  have d0 := Y0 (HT0 _ (Old.refl _))
  have d2 := Y2 (HT0 _ (Old.refl _))
  have e3 := Y3 (HD0 _ (Old.refl _))
  clear HG0
  go_wp2_with (go_at_call 50; refine (HOr.out _ HW0.out).mono ?_; rintro e w1 ⟨rfl, o1⟩; have d0 := Y0 (HT0 _ o1); have d2 := Y2 (HT0 _ o1); have e3 := Y3 (HD0 _ o1))
  go_ret
  exact zfo _ (HW0.out.trans o1)
 ·rw [ho] at HOr
  have k1 : ((nT : Int) != (nb : Int)) = true := by simp; omega
  have k2 : ¬ (nT : Int) = (nb : Int) := by omega
  rw [show (ordB nb O && (decide (nb = nb) && (decide (nb = nb) && decide (nT = nb)))) = false by simp [h3], if_neg (by simp)]
  clear ho hO hA hB hT h4 hr
  go_enter func24, ntmps24
  go_upto_region 1 with fail
  generalize ((w.alloc (.cells (gc P Q G H a n cap) 25)).alloc (.cells (tkc ba nb ca X bb nb cb Y Z bp np cp) 41)).alloc (.cells (dvc bρ nρ cρ bR nR cR bS nS cS bT nT cT bD nD cD) 31) = W at *
  have d0 := Y0 (HT0 _ (Old.refl _))
  have d2 := Y2 (HT0 _ (Old.refl _))
  have e3 := Y3 (HD0 _ (Old.refl _))
  clear HG0
  go_wp2_with (go_at_call 50; refine (HOr.out _ HW0.out).mono ?_; rintro e w1 ⟨rfl, o1⟩; have d0 := Y0 (HT0 _ o1); have d2 := Y2 (HT0 _ o1); have e3 := Y3 (HD0 _ o1))
  go_ret
  exact zfo _ (HW0.out.trans o1)
 ·rw [ho] at HOr
  have hP := zaA.1 ho
  rw [show (ordB nT O && (decide (nT = nT) && (decide (nT = nT) && decide (nT = nT)))) = true by simp [ho], if_pos rfl]
  clear ho
  have HB0 : Hid (∀ i, i < nT -> 0 <= O i /\ O i < 1000) := fun i hi => by have := hP.2.1 i hi; omega
  have m0 : 0 < nT := hP.1
  have HCo := hid fun wx (hx : Old w wx) => zfy bo nT co O wx mT (hO.old hx) HB0.out
  obtain ⟨F, hF⟩ : ∃ F : Nat -> Int, F = thiI P Q G H X Y Z A B O T := ⟨_, rfl⟩
  have HF0 : Hid (F 0 = bigI P Q G (A 0) (B 0) Y Z) := by rw [hF]; exact rfl
  obtain ⟨K, hK0⟩ : ∃ K : Nat -> Int, K = fun i => O i + 1 := ⟨_, rfl⟩
  have HFs : Hid (∀ i, F (i + 1) = mulI (expI P Q (F i) (facI Q X Y Z (K (i + 1)))) (expI P Q H (T (i + 1))) P) := fun i => by rw [hF, hK0]; exact rfl
  have HFu : Hid (∀ i, U64 (F i)) := fun i => by rw [hF]; exact zfN _ _ _ _ _ _ _ _ _ _ _ i
  have HKu : Hid (∀ i, i < nT -> U64 (K i)) := fun i hi => by rw [hK0]; have := HB0.out i hi; exact ⟨by show 0 <= O i + 1; omega, by show O i + 1 <= _; omega⟩
  have HTu : Hid (∀ i, i < nT -> U64 (T i)) := hT.u64
  have HJ : Hid (∀ wx, Old w wx -> Calls prog 63 #[gv P Q G H a n cap, tk ba nT ca X bb nT cb Y Z bp np cp, .int .i64 0] wx (Ret wx (.int .u64 (F 0)))) := fun wx hx => by rw [HF0.out]; exact zcZ P Q G H a n cap ba nT ca A X bb nT cb B Y Z bp np cp 0 wx h4 hr hY hZ (hA.old hx) (hB.old hx) m0 m0
  have HEx : Hid (∀ i wx, i + 1 < nT -> Calls prog 65 #[gv P Q G H a n cap, .int .u64 (F i), .int .u64 (facI Q X Y Z (K (i + 1)))] wx (Ret wx (.int .u64 (expI P Q (F i) (facI Q X Y Z (K (i + 1))))))) := fun i wx _ => za8 P Q G H (F i) _ a n cap wx h4 hr (HFu.out i).1 (HFu.out i).2 (u64_fac _ _ _ _ _).1 (u64_fac _ _ _ _ _).2
  have HEh := hid fun i wx (hi : i < nT) => za8 P Q G H H (T i) a n cap wx h4 hr h4.h0 h4.h1 (HTu.out i hi).1 (HTu.out i hi).2
  rw [<- hF]
  rw [<- hK0] at HCo
  have H4 := hid h4
  have HRi := hid hr
  clear hF hK0 hP HB0 hO hA hB hT h4 hr HF0
  have hmk := zaP nT mT
  go_enter func24, ntmps24
  go_upto_region 1 with fail
  generalize ((w.alloc (.cells (gc P Q G H a n cap) 25)).alloc (.cells (tkc ba nT ca X bb nT cb Y Z bp np cp) 41)).alloc (.cells (dvc bρ nρ cρ bR nR cR bS nS cS bT nT cT bD nD cD) 31) = W at *
  have HG : Hid (∀ wx, Old W wx -> wx.heap[w.heap.size]? = some (.cells (gc P Q G H a n cap) 25 (0, 0))) := HG0
  have HT : Hid (∀ wx, Old W wx -> wx.heap[w.heap.size + 1]? = some (.cells (tkc ba nT ca X bb nT cb Y Z bp np cp) 41 (0, 0))) := HT0
  have HD : Hid (∀ wx, Old W wx -> wx.heap[w.heap.size + 1 + 1]? = some (.cells (dvc bρ nρ cρ bR nR cR bS nS cS bT nT cT bD nD cD) 31 (0, 0))) := HD0
  clear HG0 HT0 HD0
  have d0 := Y0 (HT.out _ (Old.refl _))
  have d2 := Y2 (HT.out _ (Old.refl _))
  have e3 := Y3 (HD.out _ (Old.refl _))
  go_upto_region 4 with (go_at_call 50; refine (HOr.out _ HW0.out).mono ?_; rintro e w1 ⟨rfl, o1⟩; have d0 := Y0 (HT.out _ o1); have d2 := Y2 (HT.out _ o1); have e3 := Y3 (HD.out _ o1))
  clear d0 d2 e3
  go_upto_region 5 with (go_at_call 58; refine (HCo.out _ (HW0.out.trans o1)).mono ?_; rintro e w2 ⟨o2, bk, hbk, rfl, hful⟩; have HK2 : Hid (Full w2 bk nT K) := hful; have HW2 : Hid (Old W w2) := o1.trans o2; clear hful)
  clear d0 d2 e3
  go_upto_region 6 with fail
  have HFz := zaC w2 nT F
  have HW3 : Hid (Old W (w2.alloc (.cells (madeCells #[Value.int .u64 0] nT) 22))) := HW2.out.alloc _
  have HK3 : Hid (Full (w2.alloc (.cells (madeCells #[Value.int .u64 0] nT) 22)) bk nT K) := HK2.out.old ((Old.refl _).alloc _)
  have hs2 := HW2.out.size
  have hne : bk ≠ w2.heap.size := by have := HK2.out.lt; omega
  generalize w2.alloc (.cells (madeCells #[Value.int .u64 0] nT) 22) = W3 at *
  generalize w2.heap.size = bl at *
  have g0 := HG.out _ HW3.out
  have t0 := HT.out _ HW3.out
  have i0 : (0 : Int) < (nT : Int) := by omega
  have dd0 := Y0 g0
  have dd1 := Y1 g0
  have dd2 := Y2 g0
  have dd3 := Y3 g0
  have dd4 := Y4 g0
  have tt0 := Y0 t0
  have tt1 := Y1 t0
  have tt2 := Y2 t0
  have tt3 := Y3 t0
  have tt4 := Y4 t0
  have tt5 := Y5 t0
  go_upto_region 7 with (go_at_call 63; refine (HJ.out _ (HW0.out.trans HW3.out)).mono ?_; rintro e w4 ⟨rfl, o4⟩; have HF4 : Hid (Full w4 bl nT (upTo 0 F)) := HFz.old o4; have q0 := HF4.out.cell 0 m0; have f0 := HF4.out.free 0)
  have HF5 : Hid (Full (w4.setCell ⟨bl, 0, none⟩ (.int .u64 (F 0))) bl nT (upTo (0 + 1) F)) := HF4.out.next
  have HK5 : Hid (Full (w4.setCell ⟨bl, 0, none⟩ (.int .u64 (F 0))) bk nT K) := (HK3.out.old o4).other (p := ⟨bl, 0, none⟩) hne _
  have HW5 : Hid (Old W (w4.setCell ⟨bl, 0, none⟩ (.int .u64 (F 0)))) := (HW3.out.trans o4).setCell hs2 _
  generalize w4.setCell ⟨bl, 0, none⟩ (.int .u64 (F 0)) = W5 at *
  clear g0 t0 dd0 dd1 dd2 dd3 dd4 tt0 tt1 tt2 tt3 tt4 tt5 q0 f0 o4 HF4 HFz
  go_upto_region 8 with fail
  go_loopw [12] (fun iv wx => ∃ i : Nat, iv = .int .i64 ((i + 1 : Nat) : Int) /\ i + 1 <= nT /\ Hid (Full wx bl nT (upTo (i + 1) F)) /\ Hid (Full wx bk nT K) /\ Hid (Old W wx)) (fun iv _ => nT - (intOf iv).toNat)
  case atStart => exact ⟨0, rfl, by omega, HF5, HK5, HW5⟩
  case round =>
   obtain ⟨i, rfl, hi1, HN, HKx, HW⟩ := hrel
   by_cases hlt : i + 1 < nT
   ·rcases HX.out with h0 | ⟨bx, ox, hqx, _, hrx⟩
    ·omega
    have HTc := hid fun wx (hx : Old wr wx) => ((HW0.out.trans HW.out).trans hx).cellOf (hrx (i + 1) hlt).1
    have HLc : Hid (∀ wx, Old wr wx -> wx.cell? ⟨bl, i, none⟩ = some (.int .u64 (F i))) := fun wx hx => by have := (HN.out.old hx).cell i (by omega); rwa [show upTo (i + 1) F i = F i by simp [upTo]] at this
    have HKc := hid fun wx (hx : Old wr wx) => (HKx.out.old hx).cell (i + 1) hlt
    have HGr := hid fun wx (hx : Old wr wx) => HG.out _ (HW.out.trans hx)
    have HTr := hid fun wx (hx : Old wr wx) => HT.out _ (HW.out.trans hx)
    have HDr : Hid (∀ wx, Old wr wx -> wx.heap[w.heap.size + 1 + 1]? = some (.cells (dvc bρ nρ cρ bR nR cR bS nS cS (some ⟨bx, ox, none⟩) nT cT bD nD cD) 31 (0, 0))) := fun wx hx => by have := HD.out _ (HW.out.trans hx); rwa [hqx] at this
    clear hrx
    subst hqx
    go_upto_region 10 with fail
    refine zaa 29 [.k (.slice (some ⟨bl, 0, none⟩) nT nT), .k (.int .i64 ((i + 1 : Nat) : Int)), .k (gv P Q G H a n cap), .k (gv P Q G H a n cap), .k (.slice (some ⟨bl, 0, none⟩) nT nT), .k (.int .i64 ((i + 1 : Nat) : Int)), .k (.int .i64 (i : Int)), .k (.pointer (some ⟨bl, i, none⟩)), .k (.int .u64 (F i)), .k (gv P Q G H a n cap), .k (tk ba nT ca X bb nT cb Y Z bp np cp), .k (.slice (some ⟨bk, 0, none⟩) nT nT), .k (.int .i64 ((i + 1 : Nat) : Int)), .k (.pointer (some ⟨bk, i + 1, none⟩)), .k (.int .u64 (K (i + 1))), .k (.int .u64 (facI Q X Y Z (K (i + 1)))), .k (.int .u64 (expI P Q (F i) (facI Q X Y Z (K (i + 1))))), .k (gv P Q G H a n cap), .k (.pointer (some ⟨w.heap.size, 3, none⟩)), .k (.int .u64 H), .k (.pointer (some ⟨w.heap.size + 1 + 1, 3, none⟩)), .k (.slice (some ⟨bx, ox, none⟩) nT cT), .k (.int .i64 ((i + 1 : Nat) : Int)), .k (.pointer (some ⟨bx, ox + (i + 1), none⟩)), .k (.int .u64 (T (i + 1))), .k (.int .u64 (expI P Q H (T (i + 1)))), two8 W.heap.size (expI P Q (F i) (facI Q X Y Z (K (i + 1)))) (expI P Q H (T (i + 1))), .k (.int .u64 (F (i + 1))), .k (.pointer (some ⟨bl, i + 1, none⟩))] (Old wr) (by kernel_rfl) (by kernel_rfl) rfl ((Old.refl _).drew) ?st ?_
    case st =>
     refine .p <| .p <| .c (sts U25 HGr.out) <| .c (sts U25 HGr.out) <| .p <| .p <| .c (stv (v' := .int .i64 (IntKind.i64.wrap (((i + 1 : Nat) : Int) - 1))) (zfF i (by omega))) <| .c (sti0 (n := nT) (c := nT) (by omega) U29) <| .c (stl U22 HLc.out) <| .c (sts U25 HGr.out) <| .c (sts U41 HTr.out) <| .p <| .p <| .c (sti0 (n := nT) (c := nT) (i := i + 1) hlt U29) <| .c (stl U22 HKc.out) <| .c (stK old_R func66 (fun wx _ => zcX P Q G H a n cap ba nT ca X bb nT cb Y Z bp np cp _ wx hX hY hZ (HKu.out _ hlt))) <| .c (stK old_R func65 (fun wx _ => HEx.out i wx hlt)) <| .c (sts U25 HGr.out) <| .p <| .c (stf 3 U22 HGr.out) <| .p <| .c (stf 3 U29 HDr.out) <| .p <| .c (sti (n := nT) (c := cT) (i := i + 1) hlt U29) <| .c (stl U22 HTc.out) <| .c (stK old_R func65 (fun wx _ => HEh.out (i + 1) wx hlt)) <| .c (stm (ob := fun t => .cells #[.int .u64 (expI P Q (F i) (facI Q X Y Z (K (i + 1)))), .int .u64 (expI P Q H (T (i + 1)))] 22) (v := fun s => .slice (some ⟨s, 0, none⟩) 2 2) old_R fun t wx hR hd => ⟨_, rfl, zbG wx W.heap.size 2 [.int .u64 (expI P Q (F i) (facI Q X Y Z (K (i + 1)))), .int .u64 (expI P Q H (T (i + 1)))] (two7 _ _) (HW.out.trans hR).size (by omega) rfl⟩) <| .c (stC (args := fun t => #[gv P Q G H a n cap, t 26]) old_R func64 fun t wx hR hd => ?_) <| .c (sti0 (n := nT) (c := nT) (i := i + 1) hlt U29) .n
     obtain ⟨b, e, hN⟩ := hd 26 (by kernel_rfl)
     rw [e] at hN ⊢
     exact (gprod7 P Q G H a n cap _ _ H4.out HRi.out (zaz _ _ _ _) (zaz _ _ _ _) hN).mono fun r w' ⟨h, k⟩ => ⟨_, h, k, by rw [<- HFs.out i]; exact rfl⟩
    intro t wx hR hk
    simp only [fill, Ent.val, two8, Ls0, Ls1, Ld1, Ld0, Ldn]
    have HNx := hid (HN.out.old hR)
    have HG1 := hid HNx.out.next
    have HKn : Hid (Full (wx.setCell ⟨bl, i + 1, none⟩ (.int .u64 (F (i + 1)))) bk nT K) := (HKx.out.old hR).other (p := ⟨bl, i + 1, none⟩) hne _
    have HG2 : Hid (Old W (wx.setCell ⟨bl, i + 1, none⟩ (.int .u64 (F (i + 1))))) := (HW.out.trans hR).setCell hs2 _
    have q0 := HNx.out.cell (i + 1) hlt
    have f0 := HNx.out.free (i + 1)
    clear hR hk HTc HLc HKc HGr HTr HDr
    go_wp2_with fail
    go_roundw
    case rel => exact ⟨i + 1, by simp, by omega, HG1, HKn, HG2⟩
    case measure => simp [intOf]; omega
   ·obtain ⟨q, rfl⟩ : ∃ q, nT = q + 1 := ⟨nT - 1, by omega⟩
    have he : q = i := by omega
    subst he
    have HDn := hid (HN.out.done.nums (Nat.le_trans HW0.out.size hs2) (by omega))
    go_wp2_with fail
    go_ret
    exact ⟨HW0.out.trans HW.out, _, rfl, HDn.out⟩
theorem strs_two (w : World) (base : Nat) (S : Nat -> List Int) (hb : base <= w.heap.size) : (w.alloc (.cells #[.string (strOfNums (S 0)), .string (strOfNums (S 1))] 9)).ownsRow base 9 1 (.slice (some ⟨w.heap.size, 0, none⟩) 2 2) 2 (zah S 2) :=
 ⟨by simp [zah], Or.inr ⟨w.heap.size, 2, _, rfl, hb, heap_alloc_last w _, by omega, by unfold maxLen; omega, by simp, by simp [zah, List.range_succ]⟩⟩
theorem rchal_any (label : List Int) (P Q G H : Int) (a : OA) (n cap : Nat) (bt : OA) (nt ct : Nat) (T : NI) (bb : OA) (nb cb : Nat) (BA : Nat -> Option Addr) (L C : Nat -> Nat) (B : NN) (bk : OA) (nk ck : Nat) (K : NI) (w : World) (h4 : Four P Q G H) (hlb : Bts label) (hll : label.length <= 1000) (mt : nt <= 80) (mb : nb <= 80) (mL : ∀ j, j < nb -> L j <= 80) (mk : nk <= 80) (hC : ClaimIn w bt nt ct T bb nb cb BA L C B) (hK : FacsIn w bk nk K) :
  Calls prog 135 #[gv P Q G H a n cap, .string (strOfNums label), cv bt nt ct bb nb cb, .slice bk nk ck] w fun e w' => e = .returned (.int .u64 (chI label P Q G H nt T nb L B nk K)) /\ Old w w' := by
 have HZ := lain2 w (gc P Q G H a n cap) (cc bt nt ct bb nb cb) 25 50
 have HT : Hid (∀ w', Old ((w.alloc (.cells (gc P Q G H a n cap) 25)).alloc (.cells (cc bt nt ct bb nb cb) 50)) w' -> G6 w' (w.heap.size) P Q G H (.slice a n cap) (w'.cell? ⟨w.heap.size + 1, 0, none⟩ = some (.slice bt nt ct) /\ w'.cell? ⟨w.heap.size + 1, 1, none⟩ = some (.slice bb nb cb))) := fun w' ho => by
  have h := HZ.then ho
  exact ⟨h.cell 0 0 (by simp) rfl, h.cell 0 1 (by simp) rfl, h.cell 0 2 (by simp) rfl, h.cell 0 3 (by simp) rfl, h.cell 0 4 (by simp) rfl, h.cell 1 0 (by simp) rfl, h.cell 1 1 (by simp) rfl⟩
 obtain ⟨S, hS⟩ : ∃ S : Nat -> List Int, S = partS P Q G H nt T nb L B nk K := ⟨_, rfl⟩
 have HSb : Hid (∀ i, Bts (S i)) := fun i => by rw [hS]; exact partS_bd _ _ _ _ _ _ _ _ _ _ _ i
 have hlen : ∀ i, (S i).length <= 640 := fun i => by rw [hS]; exact partS_len P Q G H T B K mt mL mk i
 have HN4 : Hid (∀ (wx wy : World) (t : TypeId), Old (wx.alloc (.cells #[.int .u64 P, .int .u64 Q, .int .u64 G, .int .u64 H] t)) wy -> Calls prog 130 #[.slice (some ⟨wx.heap.size, 0, none⟩) 4 4] wy fun e w' => e = .returned (.string (strOfNums (S 0))) /\ Old wy w') := fun wx wy t ho => (zaJ _ 4 4 (four4 P Q G H) wy (by omega) ((facs_four wx P Q G H t h4).old ho)).mono fun e w' ⟨h, k⟩ => ⟨by rw [h, hS]; rfl, k⟩
 have HNt : Hid (∀ wx, Old w wx -> Calls prog 130 #[.slice bt nt ct] wx fun e w' => e = .returned (.string (strOfNums (S 1))) /\ Old wx w') := fun wx ho => (zaJ bt nt ct T wx (by omega) (hC.tar.old ho)).mono fun e w' ⟨h, k⟩ => ⟨by rw [h, hS]; rfl, k⟩
 have HNr : Hid (∀ j wx, j < nb -> Old w wx -> Calls prog 130 #[.slice (BA j) (L j) (C j)] wx fun e w' => e = .returned (.string (strOfNums (S (j + 2)))) /\ Old wx w') := fun j wx hj ho => (zaJ (BA j) (L j) (C j) (B j) wx (by have := mL j hj; omega) ((hC.bas.facs hj).old ho)).mono fun e w' ⟨h, k⟩ => ⟨by rw [h, hS, partS_row hj], k⟩
 have HNk : Hid (∀ wx, Old w wx -> Calls prog 130 #[.slice bk nk ck] wx fun e w' => e = .returned (.string (strOfNums (S (nb + 2)))) /\ Old wx w') := fun wx ho => (zaJ bk nk ck K wx (by omega) (hK.old ho)).mono fun e w' ⟨h, k⟩ => ⟨by rw [h, hS, ze5], k⟩
 have HNu : Hid (∀ b c wx, StrsIn wx b (nb + 3) S -> Calls prog 132 #[.string (strOfNums label), .slice b (nb + 3) c, .int .u64 Q] wx fun e w' => e = .returned (.int .u64 (chI label P Q G H nt T nb L B nk K)) /\ Old wx w') := fun b c wx hs => (zeO label b (nb + 3) c S Q wx hlb hs (by omega) (by have := numL_le (label := label) hlen (nb + 3); omega) h4.q0 h4.q1).mono fun e w' ⟨h, k⟩ => ⟨by rw [h, hS]; rfl, k⟩
 have HB := hid hC.bas
 generalize chI label P Q G H nt T nb L B nk K = R at *
 clear hS hlen h4 hlb hll mL mk hC hK mt
 obtain ⟨i0, hi0, hz0, hz1, hz2⟩ := info_parts strinfo
 go_enter func135, ntmps135
 go_upto_region 1 with fail
 have HW0 := hid HZ.old
 generalize hW : (w.alloc (.cells (gc P Q G H a n cap) 25)).alloc (.cells (cc bt nt ct bb nb cb) 50) = W at *
 clear hW
 obtain ⟨d0, d1, d2, d3, d4, z0, z1⟩ := HT.out _ (Old.refl _)
 have hd : Old W W.drew := (Old.refl W).drew
 go_region_held3 (fun w' => w'.cell? ⟨w.heap.size, 0, none⟩ = some (.int .u64 P) /\ w'.cell? ⟨w.heap.size, 1, none⟩ = some (.int .u64 Q) /\ w'.cell? ⟨w.heap.size, 2, none⟩ = some (.int .u64 G) /\ w'.cell? ⟨w.heap.size, 3, none⟩ = some (.int .u64 H) /\ w'.cell? ⟨w.heap.size, 4, none⟩ = some (.slice a n cap) /\ w'.cell? ⟨w.heap.size + 1, 0, none⟩ = some (.slice bt nt ct) /\ w'.cell? ⟨w.heap.size + 1, 1, none⟩ = some (.slice bb nb cb)) (first | exact HT.out _ (h4.alloc _) | exact HT.out _ (hT.alloc _) | exact HT.out _ h4 | exact HT.out _ hT | exact HT.out _ (hd.alloc _) | exact HT.out _ hd) (first
  | (go_at_call_of 130 (Value.slice bt nt ct); refine (HNt.out _ (by first | exact HW0.out.trans h4 | exact HW0.out.trans (hd.alloc _) | exact HW0.out.trans hd)).mono ?_; rintro e wT ⟨rfl, oT⟩; have hT : Old W wT := (by first | exact h4.trans oT | exact (hd.alloc _).trans oT | exact hd.trans oT))
  | (go_at_call 130; refine (HN4.out _ _ _ (by first | exact Old.refl _ | exact oT | exact Old.drewAlloc _ _ | exact (Old.drewAlloc _ _).trans oT)).mono ?_; rintro e w4 ⟨rfl, o4⟩; have h4 : Old W w4 := (by first | exact (hT.alloc _).trans o4 | exact hT.trans o4 | exact (hd.alloc _).trans o4)))
 have HOw := hid (strs_two wT W.heap.size S hT.size)
 have HWl : Hid (Old W (wT.alloc (.cells #[.string (strOfNums (S 0)), .string (strOfNums (S 1))] 9))) := hT.alloc _
 generalize wT.alloc (.cells #[.string (strOfNums (S 0)), .string (strOfNums (S 1))] 9) = Wl at *
 clear d0 d1 d2 d3 d4 z0 z1
 go_upto_region 3 with fail
 go_loopw [9, 10] (fun pv iv wx => ∃ i : Nat, iv = .int .i64 (i : Int) /\ i <= nb /\ Hid (wx.ownsRow W.heap.size 9 1 pv (i + 2) (zah S (i + 2))) /\ Hid (Old W wx)) (fun _ iv _ => nb - (intOf iv).toNat)
 case atStart => exact ⟨0, rfl, Nat.zero_le _, HOw, HWl⟩
 case round =>
  obtain ⟨i, rfl, hi, HP, HW⟩ := hrel
  obtain ⟨d0, d1, d2, d3, d4, z0, z1⟩ := HT.out _ HW.out
  by_cases hlt : i < nb
  ·rcases HB.out with h0 | ⟨bx, ox, hqx, _, hrx⟩
   ·omega
   have cx := (HW0.out.trans HW.out).cellOf (hrx i hlt).1
   clear hrx
   subst hqx
   have HC := hid (HNr.out i wr hlt (HW0.out.trans HW.out))
   generalize hsi : S (i + 2) = Si at *
   have HSi := hid hsi
   clear hsi
   go_wp2_with (first
    | (go_at_call 130; refine HC.out.mono ?_; rintro e w1 ⟨rfl, o1⟩; have hs1 := (HW.out.trans o1).size)
    | (at_builtin; refine wpList_append_own _ rfl _ _ 143 rfl W.heap.size 9 i0 (.string ⟨#[]⟩) 1 16 U143 hi0 hz0 hz1 hz2 rfl (by decide) _ _ _ rfl ((zbr HP.out o1).alloc _) ⟨w1.heap.size, 0, none⟩ 1 1 [.string (strOfNums Si)] rfl rfl ?c1 ?c2 ?c3 ?c4 ?c5 ?_))
   case c1 => exact cell_one_new _ _ _
   case c2 => intro u hu; simp at hu; subst hu; rfl
   case c3 => unfold maxLen; omega
   case c4 => omega
   case c5 => simp; omega
   intro v' w2 hown' hgrow _
   have ho2 := hid (zcj (HW.out.trans o1) (zbr HP.out o1) hgrow)
   have hw2 : Hid (w2.ownsRow W.heap.size 9 1 v' (i + 1 + 2) (zah S (i + 1 + 2))) := by
    have e : zah S (i + 1 + 2) = zah S (i + 2) ++ [.string (strOfNums Si)] := by rw [<- HSi.out]; exact zbC S (i + 2)
    unfold Hid
    rw [e]
    exact hown'
   clear hown' hgrow
   go_wp2_with fail
   go_roundw
   case rel => exact ⟨i + 1, zdd i, by omega, hw2, ho2⟩
   case measure => simp [intOf]; omega
  ·have he : nb = i := by omega
   subst he
   have HC := hid (HNk.out wr (HW0.out.trans HW.out))
   generalize hsi : S (nb + 2) = Si at *
   have HSi := hid hsi
   clear hsi
   go_upto_region 7 with (first
    | (go_at_call 130; refine HC.out.mono ?_; rintro e w1 ⟨rfl, o1⟩; have hs1 := (HW.out.trans o1).size)
    | (at_builtin; refine wpList_append_own _ rfl _ _ 143 rfl W.heap.size 9 i0 (.string ⟨#[]⟩) 1 16 U143 hi0 hz0 hz1 hz2 rfl (by decide) _ _ _ rfl ((zbr HP.out o1).alloc _) ⟨w1.heap.size, 0, none⟩ 1 1 [.string (strOfNums Si)] rfl rfl ?c1 ?c2 ?c3 ?c4 ?c5 ?_))
   case c1 => exact cell_one_new _ _ _
   case c2 => intro u hu; simp at hu; subst hu; rfl
   case c3 => unfold maxLen; omega
   case c4 => omega
   case c5 => simp; omega
   intro v' w2 hown' hgrow _
   have ho2 := hid (zcj (HW.out.trans o1) (zbr HP.out o1) hgrow)
   have hw2 : w2.ownsRow W.heap.size 9 1 v' (nb + 3) (zah S (nb + 3)) := by
    have e : zah S (nb + 3) = zah S (nb + 2) ++ [.string (strOfNums Si)] := by rw [<- HSi.out]; exact zbC S (nb + 2)
    rw [e]
    exact hown'
   obtain ⟨ba, bc, rfl, _, hst⟩ := own_strs hw2 (fun j _ => HSb.out j)
   have HN := hid (HNu.out ba bc w2 hst)
   clear hown' hgrow hw2 hst d0 d1 d2 d3 d4 z0 z1
   obtain ⟨d0, d1, d2, d3, d4, z0, z1⟩ := HT.out _ ho2.out
   go_wp2_with (go_at_call 132; refine HN.out.mono ?_; rintro e w3 ⟨rfl, o3⟩)
   go_ret
   exact ⟨rfl, (HW0.out.trans ho2.out).trans o3⟩
set_option linter.unusedSimpArgs false in
theorem zcD (b : OA) (n cap : Nat) (F : NI) (w : World) (hn : n <= 1000) (h : FacsIn w b n F) :
  Calls prog 126 #[.slice b n cap] w fun e w' => e = .returned (.string (strOfNums (packL F n))) /\ Old w w' := by
 obtain ⟨i0, hi0, hz0, hz1, hz2⟩ := info_parts zeP
 have HX : Hid (FacsIn w b n F) := h
 have hmk : ∀ wx, (Instr.makeSlice 152 (.int .i64 0) (.int .i64 (8 * (n : Int)))).run prog wx = .ok (.slice (some ⟨wx.heap.size, 0, none⟩) 0 (8 * n)) (wx.alloc (.cells (madeCells #[Value.int .u8 0] (8 * n)) 5)) := make8_run n hn
 clear h
 have HO0 : Hid ((w.alloc (.cells (madeCells #[Value.int .u8 0] (8 * n)) 5)).ownsRow w.heap.size 5 1 (.slice (some ⟨w.heap.size, 0, none⟩) 0 (8 * n)) 0 []) := World.ownsRow_made w _ (8 * n) (Nat.le_refl _) (by unfold maxLen; omega) (by rw [size_madeCells]; omega)
 have HW0 : Hid (Old w (w.alloc (.cells (madeCells #[Value.int .u8 0] (8 * n)) 5))) := (Old.refl _).alloc _
 go_enter func126, ntmps126
 go_wp2_with fail
 go_loopw [3, 13] (fun v iv wx => ∃ i : Nat, iv = .int .i64 (i : Int) /\ i <= n /\ Hid (v ≠ .slice none 0 0) /\ Hid (wx.ownsRow w.heap.size 5 1 v (8 * i) ((packL F i).map (Value.int .u8))) /\ Hid (Old w wx)) (fun _ iv _ => n - (intOf iv).toNat)
 case atStart => exact ⟨0, rfl, Nat.zero_le _, (by unfold Hid; simp), HO0, HW0⟩
 case round =>
  obtain ⟨i, rfl, hi, HE, HV, HO⟩ := hrel
  by_cases hlt : i < n
  ·rcases HX.out.old HO.out with h0 | ⟨bx, ox, hqx, _, hrx⟩
   ·omega
   have cx := (hrx i hlt).1
   clear hrx
   subst hqx
   have HP : Hid (packL F (i + 1) = packL F i ++ zaY (F i) 8 8) := rfl
   generalize F i = x at *
   go_wp2_with fail
   go_loopw [3, 6] (fun v sv wx => ∃ j r : Nat, j + r = 8 /\ sv = .int .i64 (8 * (r : Int) - 8) /\ Hid (v ≠ .slice none 0 0) /\ Hid (wx.ownsRow w.heap.size 5 1 v (8 * i + j) ((packL F i ++ zaY x 8 j).map (Value.int .u8))) /\ Hid (Old w wx)) (fun _ sv _ => (intOf sv + 8).toNat)
   case atStart => exact ⟨0, 8, by omega, rfl, HE, by have := HV; unfold Hid at this ⊢; simpa [zaY] using this, HO⟩
   case round =>
    obtain ⟨j, r, hjr, rfl, HE2, HV2, HO2⟩ := hrel
    cases r with
    | zero =>
     obtain rfl : j = 8 := by omega
     have HV3 : Hid (wr.ownsRow w.heap.size 5 1 u3 (8 * (i + 1)) ((packL F (i + 1)).map (Value.int .u8))) := by rw [HP.out]; exact HV2
     go_wp2_with fail
     go_roundw
     case rel => exact ⟨i + 1, zab i, by omega, HE2, HV3, HO2⟩
     case measure => simp [intOf]; omega
    | succ q =>
     have eq : (8 : Int) * ((q + 1 : Nat) : Int) - 8 = ((8 * q : Nat) : Int) := by omega
     simp only [eq]
     clear eq
     have hs := HO2.out.size
     have HB : Hid (zaY x 8 (j + 1) = zaY x 8 j ++ [zbk x q]) := by unfold Hid; rw [zc1, show 8 - 1 - j = q by omega]
     have q0 : (0 : Int) <= ((8 * q : Nat) : Int) := by omega
     have q1 : ((8 * q : Nat) : Int) < 64 := by omega
     go_wp2_with (at_builtin; refine wpList_append_own _ rfl _ _ 152 rfl w.heap.size 5 i0 (.int .u8 0) 1 1 U152 hi0 hz0 hz1 hz2 rfl (by decide) _ _ _ rfl (World.ownsRow.alloc HV2.out _) ⟨wr.heap.size, 0, none⟩ 1 1 [.int .u8 (zbk x q)] rfl rfl ?c1 ?c2 ?c3 ?c4 ?c5 ?_)
     case c1 => exact cell_one_new _ _ _
     case c2 => intro u hu; simp at hu; subst hu; rfl
     case c3 => unfold maxLen; omega
     case c4 => omega
     case c5 => simp; omega
     intro v' w1 hown' hgrow hne
     have HE3 : Hid (v' ≠ .slice none 0 0) := hne
     clear hne
     have HO3 : Hid (Old w w1) := zcj HO2.out HV2.out hgrow
     have HV3 : Hid (w1.ownsRow w.heap.size 5 1 v' (8 * i + (j + 1)) ((packL F i ++ zaY x 8 (j + 1)).map (Value.int .u8))) := by
      rw [HB.out]
      simp only [List.map_append, List.map_cons, List.map_nil, List.append_assoc] at hown' ⊢
      exact hown'
     clear hown' hgrow
     go_wp2_with fail
     go_roundw
     case rel => exact ⟨j + 1, q, by omega, by first | rfl | (congr 1; omega), HE3, HV3, HO3⟩
     case measure => simp [intOf]; omega
  ·have he : n = i := by omega
   subst he
   have zl := zar F n
   have HC : Hid (∃ g c, u3 = .slice g (8 * n) c /\ (convert 152 9 (.slice g (8 * n) c)).run prog wr = .ok (.string (strOfNums (packL F n))) wr) := by
    rcases HV.out.2 with ⟨hv, _⟩ | ⟨g, c, cur, hv, _, _, _⟩
    ·exact absurd hv HE.out
    ·subst hv
     refine ⟨_, c, rfl, run_convert_bytes_arg wr 152 5 U152 U5 g 0 (8 * n) c (packL F n) zl (fun i hi => ?_) 9 U9⟩
     rw [Nat.zero_add, HV.out.cellAt i (by omega), List.getElem?_map, List.getD, List.getElem?_eq_getElem (by omega)]
     rfl
   obtain ⟨g, c, rfl, hcv⟩ := HC.out
   clear HV
   go_wp2_with fail
   go_ret
   exact ⟨rfl, HO.out⟩
theorem numberI_u64 (label : List Int) (S : Nat -> List Int) (n : Nat) (q : Int) : U64 (zaj label S n q) := by
 unfold zaj
 split
 ·have := numF_bd (fun i => (sumL (numL label S n)).getD i 0) q 16
  exact ⟨this.1, by omega⟩
 ·exact ⟨by omega, by omega⟩
theorem ch_u64 (label : List Int) (P Q G H : Int) (nt : Nat) (T : NI) (nb : Nat) (L : Nat -> Nat) (B : NN) (nk : Nat) (K : NI) : U64 (chI label P Q G H nt T nb L B nk K) := numberI_u64 _ _ _ _
theorem rsame7_any (b1 : OA) (n1 c1 : Nat) (X1 : NI) (b2 : OA) (n2 c2 : Nat) (X2 : NI) (b3 : OA) (n3 c3 : Nat) (X3 : NI) (b4 : OA) (n4 c4 : Nat) (X4 : NI) (w : World) (m1 : n1 <= 9223372036854775807) (m2 : n2 <= 9223372036854775807) (h1 : FacsIn w b1 n1 X1) (h2 : FacsIn w b2 n2 X2) (h3 : FacsIn w b3 n3 X3) (h4 : FacsIn w b4 n4 X4) :
  Calls prog 93 #[cv b1 n1 c1 b2 n2 c2, cv b3 n3 c3 b4 n4 c4] w fun e w' => e = .returned (.bool (sameB n1 X1 n3 X3 && sameB n2 X2 n4 X4)) /\ Old w w' := by
 have HZ := lain2 w (cc b1 n1 c1 b2 n2 c2) (cc b3 n3 c3 b4 n4 c4) 55 55
 have HT : Hid (∀ w', Old ((w.alloc (.cells (cc b1 n1 c1 b2 n2 c2) 55)).alloc (.cells (cc b3 n3 c3 b4 n4 c4) 55)) w' -> w'.cell? ⟨w.heap.size, 0, none⟩ = some (.slice b1 n1 c1) /\ w'.cell? ⟨w.heap.size, 1, none⟩ = some (.slice b2 n2 c2) /\ w'.cell? ⟨w.heap.size + 1, 0, none⟩ = some (.slice b3 n3 c3) /\ w'.cell? ⟨w.heap.size + 1, 1, none⟩ = some (.slice b4 n4 c4)) := fun w' ho => by
  have h := HZ.then ho
  exact ⟨h.cell 0 0 (by simp) rfl, h.cell 0 1 (by simp) rfl, h.cell 1 0 (by simp) rfl, h.cell 1 1 (by simp) rfl⟩
 have HA := hid fun wx (ho : Old w wx) => zcd b1 n1 c1 X1 b3 n3 c3 X3 wx m1 (h1.old ho) (h3.old ho)
 have HB := hid fun wx (ho : Old w wx) => zcd b2 n2 c2 X2 b4 n4 c4 X4 wx m2 (h2.old ho) (h4.old ho)
 clear h1 h2 h3 h4 m1 m2
 generalize sameB n1 X1 n3 X3 = s1 at *
 generalize sameB n2 X2 n4 X4 = s2 at *
 go_enter func93, ntmps93
 go_upto_region 1 with fail
 have HW0 := hid HZ.old
 generalize hW : (w.alloc (.cells (cc b1 n1 c1 b2 n2 c2) 55)).alloc (.cells (cc b3 n3 c3 b4 n4 c4) 55) = W at *
 clear hW
 obtain ⟨p0, p1, q0, q1⟩ := HT.out _ (Old.refl _)
 cases s1 with
 | false =>
  go_wp2_with (go_at_call 19; refine (HA.out _ HW0.out).mono ?_; rintro e w1 ⟨rfl, o1⟩; obtain ⟨p0, p1, q0, q1⟩ := HT.out _ o1)
  go_ret
  exact ⟨rfl, HW0.out.trans o1⟩
 | true =>
  go_wp2_with (first
   | (go_at_call 19; have hg := o1; refine (HB.out _ (HW0.out.trans o1)).mono ?_; rintro e w2 ⟨rfl, o2⟩)
   | (go_at_call 19; refine (HA.out _ HW0.out).mono ?_; rintro e w1 ⟨rfl, o1⟩; obtain ⟨p0, p1, q0, q1⟩ := HT.out _ o1))
  go_ret
  exact ⟨rfl, (HW0.out.trans o1).trans o2⟩
theorem zbp : (prog.info? 55).map (·.size) = some 2 := by kernel_rfl
def GivesP (w : World) (ok : Bool) (nt : Nat) (F : NI) (nz : Nat) (Z : NI) (r : Ending) (w' : World) : Prop :=
 Old w w' /\ ∃ v u, r = .returned (.tuple #[.agg #[v, u], .bool ok]) /\ Nums w' w.heap.size v (if ok then nt else 0) F /\ Nums w' w.heap.size u (if ok then nz else 0) Z
theorem zc3 {w w' : World} {ok : Bool} {nt : Nat} {F : NI} {nz : Nat} {Z : NI} (h : ok = false) (ho : Old w w') : GivesP w ok nt F nz Z (.returned (.tuple #[.agg #[.slice none 0 0, .slice none 0 0], .bool false])) w' := by
 subst h
 exact ⟨ho, _, _, rfl, zaD _ _ _, zaD _ _ _⟩
theorem zge {w w' : World} {ok : Bool} {nt : Nat} {F : NI} {nz : Nat} {Z : NI} {v u : Value} (h : ok = true) (ho : Old w w') (h1 : Nums w' w.heap.size v nt F) (h2 : Nums w' w.heap.size u nz Z) : GivesP w ok nt F nz Z (.returned (.tuple #[.agg #[v, u], .bool true])) w' := by
 subst h
 exact ⟨ho, _, _, rfl, h1, h2⟩
theorem zeH (Q e w d : Int) : U64 (ansI Q e w d) := ⟨(zbZ _ _ _).1, Int.le_trans (zbZ _ _ _).2 (by omega)⟩
def provB (sz nw nd : Nat) : Bool := fitsB sz nd && decide (nw = nd)
set_option linter.unusedSimpArgs false in
theorem rprove_any (label : List Int) (P Q G H : Int) (a : OA) (n cap : Nat) (bt : OA) (nt ct : Nat) (T : NI) (bb : OA) (nb cb : Nat) (BA : Nat -> Option Addr) (L C : Nat -> Nat) (B : NN) (bw : OA) (nw cw : Nat) (X : NI) (bd : OA) (nd cd : Nat) (Y F : NI) (hF : F = fun j => imI P Q (B j) Y (sizeN P Q nt T nb L B)) (w : World) (h4 : Four P Q G H) (hlb : Bts label) (hll : label.length <= 1000) (mt : nt <= 80) (mb : nb <= 80) (mL : ∀ j, j < nb -> L j <= 80) (mw : nw <= 80) (hC : ClaimIn w bt nt ct T bb nb cb BA L C B) (hX : FacsIn w bw nw X) (hY : FacsIn w bd nd Y) :
  Calls prog 92 #[gv P Q G H a n cap, .string (strOfNums label), cv bt nt ct bb nb cb, .slice bw nw cw, .slice bd nd cd] w (GivesP w (provB (sizeN P Q nt T nb L B) nw nd) nt F nw (fun k => ansI Q (chI label P Q G H nt T nb L B nt F) (X k) (Y k))) := by
 have HZ := lain3 w (gc P Q G H a n cap) (cc bt nt ct bb nb cb) (cc none 0 0 none 0 0) 25 50 55
 have HT : Hid (∀ w', Old (((w.alloc (.cells (gc P Q G H a n cap) 25)).alloc (.cells (cc bt nt ct bb nb cb) 50)).alloc (.cells (cc none 0 0 none 0 0) 55)) w' -> G6 w' (w.heap.size) P Q G H (.slice a n cap) (w'.cell? ⟨w.heap.size + 1, 0, none⟩ = some (.slice bt nt ct) /\ w'.cell? ⟨w.heap.size + 1, 1, none⟩ = some (.slice bb nb cb))) := fun w' ho => by
  have h := HZ.then ho
  exact ⟨h.cell 0 0 (by simp) rfl, h.cell 0 1 (by simp) rfl, h.cell 0 2 (by simp) rfl, h.cell 0 3 (by simp) rfl, h.cell 0 4 (by simp) rfl, h.cell 1 0 (by simp) rfl, h.cell 1 1 (by simp) rfl⟩
 have HRS := hid fun w' (ho : Old (((w.alloc (.cells (gc P Q G H a n cap) 25)).alloc (.cells (cc bt nt ct bb nb cb) 50)).alloc (.cells (cc none 0 0 none 0 0) 55)) w') => (HZ.then ho).row 2 (by simp)
 have HIm : Hid (∀ wx, Old w wx -> Calls prog 133 #[gv P Q G H a n cap, cv bt nt ct bb nb cb, .slice bd nd cd] wx (Gives wx (fitsB (sizeN P Q nt T nb L B) nd) nt F)) := fun wx ho => by rw [hF]; exact rimage_any P Q G H a n cap bt nt ct T bb nb cb BA L C B bd nd cd Y wx h4 (hC.old ho) (hY.old ho)
 have HFU : Hid (∀ j, U64 (F j)) := fun j => by rw [hF]; exact zdm _ _ _
 have HCh := hid fun b c wx (ho : Old w wx) (hf : FacsIn wx b nt F) => rchal_any label P Q G H a n cap bt nt ct T bb nb cb BA L C B b nt c F wx h4 hlb hll mt mb mL mt (hC.old ho) hf
 have hcu := ch_u64 label P Q G H nt T nb L B nt F
 generalize chI label P Q G H nt T nb L B nt F = ch at *
 obtain ⟨Z, hZ⟩ : ∃ Z : Nat -> Int, Z = fun k => ansI Q ch (X k) (Y k) := ⟨_, rfl⟩
 rw [<- hZ]
 have HAn : Hid (∀ wx, Old w wx -> Calls prog 134 #[gv P Q G H a n cap, .slice bw nw cw, .slice bd nd cd, .int .u64 ch] wx (Gives wx (decide (nw = nd)) nw Z)) := fun wx ho => by rw [hZ]; exact ranswer_any P Q G H a n cap bw nw cw X bd nd cd Y ch wx hcu mw (hX.old ho) (hY.old ho)
 have HZU : Hid (∀ k, U64 (Z k)) := fun k => by rw [hZ]; exact zeH _ _ _ _
 clear hZ hF h4 hlb hll mL hC hX hY hcu mt mb
 generalize sizeN P Q nt T nb L B = sz at *
 cases hok : fitsB sz nd with
 | false =>
  have HN : Hid (provB sz nw nd = false) := by unfold Hid provB; rw [hok]; rfl
  rw [hok] at HIm
  clear hok
  go_enter func92, ntmps92
  go_upto_region 1 with fail
  have HW0 := hid HZ.old
  generalize hW : ((w.alloc (.cells (gc P Q G H a n cap) 25)).alloc (.cells (cc bt nt ct bb nb cb) 50)).alloc (.cells (cc none 0 0 none 0 0) 55) = W at *
  clear hW
  obtain ⟨d0, d1, d2, d3, d4, z0, z1⟩ := HT.out _ (Old.refl _)
  go_upto_region 2 with (go_at_call 133; refine (HIm.out _ HW0.out).mono ?_; rintro e w2 ⟨v, rfl, hN, h2⟩)
  clear d0 d1 d2 d3 d4 z0 z1 hN
  have HR := HRS.out _ h2
  have q0 : w2.cell? ⟨w.heap.size + 1 + 1, 0, none⟩ = some (.slice none 0 0) := Y0 HR
  have q1 : w2.cell? ⟨w.heap.size + 1 + 1, 1, none⟩ = some (.slice none 0 0) := Y1 HR
  have f0 : w2.frozen? ⟨w.heap.size + 1 + 1, 0, none⟩ = false := zac HR 0
  have f1 : w2.frozen? ⟨w.heap.size + 1 + 1, 1, none⟩ = false := zac HR 1
  have HRh := hid HR
  clear HR
  go_wp2_with fail
  exact bodyPost_ret (zay (b := w.heap.size + 1 + 1) rfl rfl rfl (zaW HRh.out U55 zbp)) rfl (zc3 HN.out (Old.setCell (p := ⟨w.heap.size + 1 + 1, 1, none⟩) (Old.setCell (p := ⟨w.heap.size + 1 + 1, 0, none⟩) (HW0.out.trans h2) (by show w.heap.size <= w.heap.size + 1 + 1; omega) _) (by show w.heap.size <= w.heap.size + 1 + 1; omega) _))
 | true =>
  rw [hok] at HIm
  by_cases hnn : nw = nd
  ·subst hnn
   have HN : Hid (provB sz nw nw = true) := by unfold Hid provB; rw [hok]; simp
   have k1 : decide (nw = nw) = true := by simp
   rw [k1] at HAn
   clear hok k1
   go_enter func92, ntmps92
   go_upto_region 1 with fail
   have HW0 := hid HZ.old
   have hs0 : w.heap.size + 1 + 1 < (((w.alloc (.cells (gc P Q G H a n cap) 25)).alloc (.cells (cc bt nt ct bb nb cb) 50)).alloc (.cells (cc none 0 0 none 0 0) 55)).heap.size := by simp
   generalize hW : ((w.alloc (.cells (gc P Q G H a n cap) 25)).alloc (.cells (cc bt nt ct bb nb cb) 50)).alloc (.cells (cc none 0 0 none 0 0) 55) = W at *
   clear hW
   obtain ⟨d0, d1, d2, d3, d4, z0, z1⟩ := HT.out _ (Old.refl _)
   go_upto_region 2 with (go_at_call 133; refine (HIm.out _ HW0.out).mono ?_; rintro e w2 ⟨v, rfl, hN, h2⟩)
   simp only [if_true] at hN
   obtain ⟨bf, cf, rfl, hcf, hff⟩ := hN.facs (fun j _ => HFU.out j)
   have HNu := hid hN
   have HFF := hid hff
   have HW2 := hid h2
   clear d0 d1 d2 d3 d4 z0 z1 hN hff h2
   obtain ⟨d0, d1, d2, d3, d4, z0, z1⟩ := HT.out _ HW2.out
   go_upto_region 4 with fail
   have hd : Old W w2.drew := HW2.out.drew
   go_region_held3 (fun w' => w'.cell? ⟨w.heap.size, 0, none⟩ = some (.int .u64 P) /\ w'.cell? ⟨w.heap.size, 1, none⟩ = some (.int .u64 Q) /\ w'.cell? ⟨w.heap.size, 2, none⟩ = some (.int .u64 G) /\ w'.cell? ⟨w.heap.size, 3, none⟩ = some (.int .u64 H) /\ w'.cell? ⟨w.heap.size, 4, none⟩ = some (.slice a n cap) /\ w'.cell? ⟨w.heap.size + 1, 0, none⟩ = some (.slice bt nt ct) /\ w'.cell? ⟨w.heap.size + 1, 1, none⟩ = some (.slice bb nb cb)) (first | exact HT.out _ h5 | exact HT.out _ h4 | exact HT.out _ hd) (first
    | (go_at_call 135; refine (HCh.out _ _ _ (HW0.out.trans hd) (HFF.out.old (Old.refl _).drew)).mono ?_; rintro e w4 ⟨rfl, o4⟩; have h4 : Old W w4 := hd.trans o4)
    | (go_at_call 134; refine (HAn.out _ (HW0.out.trans h4)).mono ?_; rintro e w5 ⟨u, rfl, hNz, o5⟩; have h5 : Old W w5 := h4.trans o5))
   simp only [if_true] at hNz
   obtain ⟨bu, cu, rfl, hcu2, _⟩ := hNz.facs (fun j _ => HZU.out j)
   have HNz := hid (hNz.mono h4.size)
   have HNv := hid (HNu.out.old (((Old.refl w2).drew.trans o4).trans o5))
   have HW5 := hid h5
   clear d0 d1 d2 d3 d4 z0 z1 hNz
   have HR := HRS.out _ HW5.out
   have q0 : w5.cell? ⟨w.heap.size + 1 + 1, 0, none⟩ = some (.slice none 0 0) := Y0 HR
   have q1 : w5.cell? ⟨w.heap.size + 1 + 1, 1, none⟩ = some (.slice none 0 0) := Y1 HR
   have f0 : w5.frozen? ⟨w.heap.size + 1 + 1, 0, none⟩ = false := zac HR 0
   have f1 : w5.frozen? ⟨w.heap.size + 1 + 1, 1, none⟩ = false := zac HR 1
   have HRh := hid HR
   clear HR
   go_wp2_with fail
   refine bodyPost_ret (zay (b := w.heap.size + 1 + 1) rfl rfl rfl (zaW HRh.out U55 zbp)) rfl ?_
   refine zge HN.out (Old.setCell (p := ⟨w.heap.size + 1 + 1, 1, none⟩) (Old.setCell (p := ⟨w.heap.size + 1 + 1, 0, none⟩) (HW0.out.trans HW5.out) (by show w.heap.size <= w.heap.size + 1 + 1; omega) _) (by show w.heap.size <= w.heap.size + 1 + 1; omega) _) ?_ ?_
   ·exact (ownsRow_setCell_below (ownsRow_setCell_below HNv.out (by show w.heap.size + 1 + 1 < W.heap.size; exact hs0) _) (by show w.heap.size + 1 + 1 < W.heap.size; exact hs0) _).mono HW0.out.size
   ·exact (ownsRow_setCell_below (ownsRow_setCell_below HNz.out (by show w.heap.size + 1 + 1 < W.heap.size; exact hs0) _) (by show w.heap.size + 1 + 1 < W.heap.size; exact hs0) _).mono HW0.out.size
  ·have HN : Hid (provB sz nw nd = false) := by unfold Hid provB; simp [hnn]
   have k1 : ¬ (nw : Int) = (nd : Int) := by omega
   have k4 : ((nw : Int) != (nd : Int)) = true := by simp; omega
   have k5 : ((nw : Int) == (nd : Int)) = false := by simp; omega
   clear hok
   go_enter func92, ntmps92
   go_upto_region 1 with fail
   have HW0 := hid HZ.old
   generalize hW : ((w.alloc (.cells (gc P Q G H a n cap) 25)).alloc (.cells (cc bt nt ct bb nb cb) 50)).alloc (.cells (cc none 0 0 none 0 0) 55) = W at *
   clear hW
   obtain ⟨d0, d1, d2, d3, d4, z0, z1⟩ := HT.out _ (Old.refl _)
   go_upto_region 2 with (go_at_call 133; refine (HIm.out _ HW0.out).mono ?_; rintro e w2 ⟨v, rfl, hN, h2⟩)
   clear d0 d1 d2 d3 d4 z0 z1 hN
   have HR := HRS.out _ h2
   have q0 : w2.cell? ⟨w.heap.size + 1 + 1, 0, none⟩ = some (.slice none 0 0) := Y0 HR
   have q1 : w2.cell? ⟨w.heap.size + 1 + 1, 1, none⟩ = some (.slice none 0 0) := Y1 HR
   have f0 : w2.frozen? ⟨w.heap.size + 1 + 1, 0, none⟩ = false := zac HR 0
   have f1 : w2.frozen? ⟨w.heap.size + 1 + 1, 1, none⟩ = false := zac HR 1
   have HRh := hid HR
   clear HR
   go_wp2_with fail
   exact bodyPost_ret (zay (b := w.heap.size + 1 + 1) rfl rfl rfl (zaW HRh.out U55 zbp)) rfl (zc3 HN.out (Old.setCell (p := ⟨w.heap.size + 1 + 1, 1, none⟩) (Old.setCell (p := ⟨w.heap.size + 1 + 1, 0, none⟩) (HW0.out.trans h2) (by show w.heap.size <= w.heap.size + 1 + 1; omega) _) (by show w.heap.size <= w.heap.size + 1 + 1; omega) _))
end
section
open Go.RowKit Go.ChangeShapes Go.WideShapes Go.Deep
section
variable {H : Type} {enc : TypeId × Value -> H} {P : Program} {w : World}
theorem cell_lt {b off : Nat} {v : Value} (h : w.cell? ⟨b, off, none⟩ = some v) : b < w.heap.size := by
 refine Classical.byContradiction fun hc => ?_
 have : w.heap[b]? = none := by simp; omega
 simp [World.cell?, this] at h
theorem open_facs {t e : TypeId} {fuel : Nat} {v : Value} {x : DataW H × List MemPlace} (ht : P.underlying t = some (.slice e)) (he : P.underlying e = some (.int .u64)) (hc : P.cellsOf e = 1)
  (h : DataW.trod enc P w 0 (fun _ => true) true fuel t [v] = some x) : ∃ (a : OA) (L C : Nat) (F : NI), v = .slice a L C /\ L <= C /\ C <= maxLen /\ FacsIn w a L F := by
 rcases open_ints ht he hc h with ⟨hcs, _⟩ | ⟨a, len, cap, zs, hcs, _, hl, hm, hz, _, hcell, hwz⟩
 ·exact ⟨none, 0, 0, fun _ => 0, by simpa using hcs, Nat.le_refl _, Nat.zero_le _, Or.inl rfl⟩
 ·simp only [if_true] at hz
  refine ⟨some a, len, cap, fun j => zs.getD j 0, by simpa using hcs, hl, hm, ?_⟩
  by_cases h0 : len = 0
  ·exact Or.inl h0
  ·obtain ⟨b, off, rfl, hc'⟩ := ints_at hcell (by omega)
   refine Or.inr ⟨b, off, rfl, cell_lt (hc' 0 (by omega)), fun j hj => ⟨hc' j (by omega), ?_⟩⟩
   have hj' : j < zs.length := by omega
   have e : zs.getD j 0 = zs[j] := by simp [List.getD, hj']
   show 0 <= zs.getD j 0 /\ zs.getD j 0 <= 18446744073709551615
   rw [e]
   exact bounds_u64 (hwz _ (List.getElem_mem hj'))
theorem open_rows {t e u s : TypeId} {f0 f1 f2 : Field} (ht : P.underlying t = some (.slice e)) (he : P.underlying e = some (.struct #[f0, f1, f2])) (hu : P.underlying u = some (.int .u64)) (hs : P.underlying s = some (.slice u))
  (o0 : f0.offset = 0) (o1 : f1.offset = 1) (o2 : f2.offset = 2) (t0 : f0.type = u) (t1 : f1.type = u) (t2 : f2.type = s) (ce : P.cellsOf e = 3) (cu : P.cellsOf u = 1) (cs : P.cellsOf s = 1)
  {a : OA} {n cap : Nat} {d : DataW H} {p : List MemPlace} (h : DataW.Trod enc P w 0 (fun _ => true) true t (.slice a n cap) d p) :
  n <= cap /\ ∃ (N A : NI) (FA : Nat -> Option Addr) (L C : Nat -> Nat) (F : NN), RowsIn w a n N A FA L C F := by
 obtain ⟨fuel, hf⟩ := h
 rcases open_slice ht hf with ⟨hcs, _⟩ | ⟨a', len, cap', m, k, D, Pl, hcs, _, hl, hm, hmm, _, hx⟩
 ·simp [Value.cells] at hcs
  obtain ⟨rfl, rfl, rfl⟩ := hcs
  exact ⟨Nat.le_refl _, fun _ => 0, fun _ => 0, fun _ => none, fun _ => 0, fun _ => 0, fun _ _ => 0, Or.inl rfl⟩
 simp [Value.cells] at hcs
 obtain ⟨rfl, rfl, rfl⟩ := hcs
 simp only [if_true] at hmm
 subst hmm
 refine ⟨hl, ?_⟩
 by_cases h0 : n = 0
 ·exact ⟨fun _ => 0, fun _ => 0, fun _ => none, fun _ => 0, fun _ => 0, fun _ _ => 0, Or.inl h0⟩
 rw [ce] at hx
 -- the address is a plain one
 obtain ⟨b, off, spot⟩ := a'
 have hspot : spot = none := by
  obtain ⟨cs0, hc0, _⟩ := hx 0 (by omega)
  obtain ⟨_, hlen, hcell⟩ := World.cells?_some hc0
  have g := hcell 0 (by omega)
  have : ∃ v, cs0[0]? = some v := ⟨cs0[0], by simp⟩
  obtain ⟨v, hv⟩ := this
  rw [hv] at g
  simpa [Addr.add] using World.cell?_spot g
 subst hspot
 have each : ∀ i, i < m -> ∃ y : Int × Int × Option Addr × Nat × Nat × (Nat -> Int), RowAt w b (off + i * 3) y.1 y.2.1 y.2.2.1 y.2.2.2.1 y.2.2.2.2.1 y.2.2.2.2.2 := by
  intro i hi
  obtain ⟨cs', h1, h2⟩ := hx i hi
  obtain ⟨_, hlen, hcell⟩ := World.cells?_some h1
  obtain ⟨y0, y1, y2, k', _, _, g0, g1, g2⟩ := trod_struct3 he h2
  match cs', hlen with
  | [v0, v1, v2], _ =>
   simp [o0, o1, o2, t0, t1, t2, cu, cs] at g0 g1 g2
   obtain ⟨x0, e0, _, w0⟩ := DataW.trod_int hu g0
   obtain ⟨x1, e1, _, w1⟩ := DataW.trod_int hu g1
   obtain ⟨fa, L, C, F, e2, hL, hC, hF⟩ := open_facs hs hu cu g2
   simp at e0 e1
   subst e0 e1 e2
   have c0 := hcell 0 (by omega)
   have c1 := hcell 1 (by omega)
   have c2 := hcell 2 (by omega)
   simp only [add_plain] at c0 c1 c2
   have b0 := bounds_u64 w0
   have b1 := bounds_u64 w1
   exact ⟨(x0, x1, fa, L, C, F), by simpa using c0, by simpa using c1, by simpa using c2, b0.1, b0.2, b1.1, b1.2, hL, hC, hF⟩
 obtain ⟨y, hy⟩ := choose_lt each
 refine ⟨fun i => (y i).1, fun i => (y i).2.1, fun i => (y i).2.2.1, fun i => (y i).2.2.2.1, fun i => (y i).2.2.2.2.1, fun i => (y i).2.2.2.2.2, Or.inr ⟨b, off, rfl, cell_lt (hy 0 (by omega)).c0, fun i hi => hy i (by omega)⟩⟩
end
end
section
open Go.RowKit Go.ChangeShapes Go.WideShapes Go.Deep
section
variable {H : Type} {enc : TypeId × Value -> H} {P : Program} {w : World}
theorem trod_struct5 {t : TypeId} {f0 f1 f2 f3 f4 : Field} {fuel : Nat} {cs : List Value} {x : DataW H × List MemPlace} (ht : P.underlying t = some (.struct #[f0, f1, f2, f3, f4])) (h : DataW.trod enc P w 0 (fun _ => true) true fuel t cs = some x) :
  ∃ y0 y1 y2 y3 y4 n, cs.length = P.cellsOf t /\ DataW.trod enc P w 0 (fun _ => true) true n f0.type ((cs.drop f0.offset).take (P.cellsOf f0.type)) = some y0 /\
   DataW.trod enc P w 0 (fun _ => true) true n f1.type ((cs.drop f1.offset).take (P.cellsOf f1.type)) = some y1 /\ DataW.trod enc P w 0 (fun _ => true) true n f2.type ((cs.drop f2.offset).take (P.cellsOf f2.type)) = some y2 /\
   DataW.trod enc P w 0 (fun _ => true) true n f3.type ((cs.drop f3.offset).take (P.cellsOf f3.type)) = some y3 /\ DataW.trod enc P w 0 (fun _ => true) true n f4.type ((cs.drop f4.offset).take (P.cellsOf f4.type)) = some y4 := by
 obtain ⟨xs, n, _, rfl, hl, hlen, hf⟩ := DataW.trod_struct ht h
 match xs, hlen with
 | [y0, y1, y2, y3, y4], _ => exact ⟨y0, y1, y2, y3, y4, n, hl, by simpa using hf 0 f0 rfl, by simpa using hf 1 f1 rfl, by simpa using hf 2 f2 rfl, by simpa using hf 3 f3 rfl, by simpa using hf 4 f4 rfl⟩
theorem open_params {t u r e s : TypeId} {f0 f1 f2 f3 f4 g0 g1 g2 : Field} (ht : P.underlying t = some (.struct #[f0, f1, f2, f3, f4])) (hu : P.underlying u = some (.int .u64)) (hr : P.underlying r = some (.slice e))
  (he : P.underlying e = some (.struct #[g0, g1, g2])) (hs : P.underlying s = some (.slice u)) (o0 : f0.offset = 0) (o1 : f1.offset = 1) (o2 : f2.offset = 2) (o3 : f3.offset = 3) (o4 : f4.offset = 4)
  (t0 : f0.type = u) (t1 : f1.type = u) (t2 : f2.type = u) (t3 : f3.type = u) (t4 : f4.type = r) (p0 : g0.offset = 0) (p1 : g1.offset = 1) (p2 : g2.offset = 2) (s0 : g0.type = u) (s1 : g1.type = u) (s2 : g2.type = s)
  (ct : P.cellsOf t = 5) (ce : P.cellsOf e = 3) (cu : P.cellsOf u = 1) (cr : P.cellsOf r = 1) (cs : P.cellsOf s = 1) {v : Value} {d : DataW H} {p : List MemPlace} (h : DataW.Trod enc P w 0 (fun _ => true) true t v d p) :
  ∃ (p q g k : Int) (a : OA) (n cap : Nat), v = gv p q g k a n cap /\ Four p q g k /\ n <= cap /\ ∃ (N A : NI) (FA : Nat -> Option Addr) (L C : Nat -> Nat) (F : NN), RowsIn w a n N A FA L C F := by
 obtain ⟨fuel, hf⟩ := h
 obtain ⟨y0, y1, y2, y3, y4, m, hl, k0, k1, k2, k3, k4⟩ := trod_struct5 ht hf
 rw [ct] at hl
 cases v with
 | agg c =>
  obtain ⟨l⟩ := c
  match l, hl with
  | [v0, v1, v2, v3, v4], _ =>
   simp [Value.cells, o0, o1, o2, o3, o4, t0, t1, t2, t3, t4, cu, cr] at k0 k1 k2 k3 k4
   obtain ⟨x0, e0, _, w0⟩ := DataW.trod_int hu k0
   obtain ⟨x1, e1, _, w1⟩ := DataW.trod_int hu k1
   obtain ⟨x2, e2, _, w2⟩ := DataW.trod_int hu k2
   obtain ⟨x3, e3, _, w3⟩ := DataW.trod_int hu k3
   simp at e0 e1 e2 e3
   subst e0 e1 e2 e3
   have hv4 : ∃ a n cap, v4 = .slice a n cap := by
    rcases open_slice hr k4 with ⟨hcs, _⟩ | ⟨a', len, cap', _, _, _, _, hcs, _⟩
    ·exact ⟨none, 0, 0, by simpa using hcs⟩
    ·exact ⟨some a', len, cap', by simpa using hcs⟩
   obtain ⟨a, n, cap, rfl⟩ := hv4
   have ko : DataW.Trod enc P w 0 (fun _ => true) true r (.slice a n cap) y4.1 y4.2 := ⟨m, by simpa [Value.cells] using k4⟩
   obtain ⟨hcap, N, A, FA, L, C, F, hin⟩ := open_rows hr he hu hs p0 p1 p2 s0 s1 s2 ce cu cs ko
   have b0 := bounds_u64 w0
   have b1 := bounds_u64 w1
   have b2 := bounds_u64 w2
   have b3 := bounds_u64 w3
   exact ⟨x0, x1, x2, x3, a, n, cap, rfl, ⟨b0.1, b0.2, b1.1, b1.2, b2.1, b2.2, b3.1, b3.2⟩, hcap, N, A, FA, L, C, F, hin⟩
 | _ => simp [Value.cells] at hl
end
end
section
open Go.RowKit Go.ChangeShapes Go.WideShapes Go.Deep
section
variable {H : Type} {enc : TypeId × Value -> H} {P : Program} {w : World}
theorem zcx {e : TypeId} (he : P.underlying e = some (.int .u64)) {m : Nat} {c : Value} {y : DataW H × List MemPlace} (h : DataW.trod enc P w 0 (fun _ => true) true m e [c] = some y) : ∃ x : Int, c = .int .u64 x /\ U64 x := by
 obtain ⟨x, hx, _, hw⟩ := DataW.trod_int he h
 simp at hx
 exact ⟨x, hx, (bounds_u64 hw).1, (bounds_u64 hw).2⟩
theorem zf7 {t u : TypeId} {f0 f1 : Field} (ht : P.underlying t = some (.struct #[f0, f1])) (hu : P.underlying u = some (.int .u64)) (o0 : f0.offset = 0) (o1 : f1.offset = 1) (t0 : f0.type = u) (t1 : f1.type = u) (ct : P.cellsOf t = 2) (cu : P.cellsOf u = 1) {fuel : Nat} {cs : List Value} {x : DataW H × List MemPlace} (h : DataW.trod enc P w 0 (fun _ => true) true fuel t cs = some x) :
  ∃ x y : Int, cs = [.int .u64 x, .int .u64 y] /\ U64 x /\ U64 y := by
 obtain ⟨xs, n, _, rfl, hl, hlen, hf⟩ := DataW.trod_struct ht h
 rw [ct] at hl
 have g0 := hf 0 f0 rfl
 have g1 := hf 1 f1 rfl
 have hlen : xs.length = 2 := hlen
 rw [List.getElem?_eq_getElem (by omega)] at g0 g1
 match cs, hl with
 | [a, b], _ =>
  simp [o0, o1, t0, t1, cu] at g0 g1
  obtain ⟨x, rfl, bx⟩ := zcx hu g0
  obtain ⟨y, rfl, by_⟩ := zcx hu g1
  exact ⟨x, y, rfl, bx, by_⟩
end
end
section
open Go.RowKit Go.ChangeShapes Go.WideShapes Go.Deep
section
variable {H : Type} {enc : TypeId × Value -> H} {P : Program} {w : World}
theorem open_str {st : TypeId} (hst : P.underlying st = some .string) {m : Nat} {c : Value} {y : DataW H × List MemPlace} (h : DataW.trod enc P w 0 (fun _ => true) true m st [c] = some y) : ∃ lab : List Int, c = .string (strOfNums lab) /\ Bts lab := by
 obtain ⟨s, hs, _, _⟩ := DataW.trod_string hst h
 simp at hs
 subst hs
 exact ⟨zax s, by rw [numsOf_str], numsOf_bd s⟩
theorem arr3_cells {t e : TypeId} (ht : P.underlying t = some (.array 3 e)) (he : P.underlying e = some (.int .u64)) (hc : P.cellsOf e = 1) (hk : P.cellsOf t = 3) {fuel : Nat} {cs : List Value} {x : DataW H × List MemPlace} (h : DataW.trod enc P w 0 (fun _ => true) true fuel t cs = some x) :
  ∃ x y z : Int, cs = [.int .u64 x, .int .u64 y, .int .u64 z] /\ U64 x /\ U64 y /\ U64 z := by
 obtain ⟨xs, m, _, _, hl, hlx, hi⟩ := DataW.trod_array ht h
 rw [hk] at hl
 have g0 := hi 0 (by omega)
 have g1 := hi 1 (by omega)
 have g2 := hi 2 (by omega)
 rw [hc, List.getElem?_eq_getElem (by omega)] at g0 g1 g2
 match cs, hl with
 | [a, b, c], _ =>
  simp at g0 g1 g2
  obtain ⟨x, rfl, bx⟩ := zcx he g0
  obtain ⟨y, rfl, by_⟩ := zcx he g1
  obtain ⟨z, rfl, bz⟩ := zcx he g2
  exact ⟨x, y, z, rfl, bx, by_, bz⟩
end
end
end Go.Proofs.YtlnmjbbpenhdbaaGreat
