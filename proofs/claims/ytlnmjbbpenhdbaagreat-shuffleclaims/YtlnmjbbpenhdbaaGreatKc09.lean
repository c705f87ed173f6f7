/-
  What is laid down first and second (layer 8).
  The numbers of boxes, one behind the other (layer 8).
  The contracts of linear.Answer and linear.Draws.
  The contracts of linear.areElements, isCount, lengthsFit and Size.
  The elements of layer 8.
  Whether boxes are a batch (layer 8).
  The program's Mix (layer 8).
-/
import Derived.Test.YtlnmjbbpenhdbaaGreatKc08
import Derived.Deep.AppendLies
import Derived.Test.YtlnmjbbpenhdbaaGreatKc05
namespace Go.Proofs.YtlnmjbbpenhdbaaGreat
open Go.RowKit
set_option linter.unusedSimpArgs false
set_option linter.unusedVariables false

set_option maxRecDepth 100000 in
set_option maxHeartbeats 8000000 in
theorem sfirst_any (P Q G H : Int) (a : Option Addr) (n cap : Nat) (bo : Option Addr) (no co : Nat) (O : Nat → Int) (br : Option Addr) (nr cr : Nat) (R : Nat → Int) (w : World) (h4 : Four P Q G H) (hr : Righ P Q G) (mo : no ≤ 80) (mr : nr ≤ 80) (hO : IntsIn w bo no O) (hR : FacsIn w br nr R) :
    Calls Tryz.prog 20 #[gv P Q G H a n cap, .slice bo no co, .slice br nr cr] w (GivL w (if ordB no O && decide (nr = no) then no else 0) (fun i => comI P Q G H (O i + 1) (R i))) := by
  have HX : Hid (FacsIn w br nr R) := hR
  have HZ := lain1 w (gc P Q G H a n cap) 25
  have HG0 := fun w' ho => (HZ.then (W' := w') ho).row 0 (by simp)
  have HW0 : Hid (Old w (w.alloc (.cells (gc P Q G H a n cap) 25))) := HZ.old
  have HOr : Hid (∀ wx, Old w wx → Calls Tryz.prog 50 #[.slice bo no co] wx (Ret wx (.bool (ordB no O)))) := fun wx ho => sorder_any bo no co O wx (by omega) (hO.old ho)
  cases ho : ordB no O with
  | false =>
    rw [ho] at HOr
    clear ho hO hR h4 hr HG0
    go_enter Tryz.func20, Tryz.ntmps20
    go_upto_region 1 with fail
    generalize w.alloc (.cells (gc P Q G H a n cap) 25) = W at *
    go_wp2_with (go_at_call 50; refine (HOr.out _ HW0.out).mono ?_; rintro e w1 ⟨rfl, o1⟩)
    go_ret
    exact givL_none _ (HW0.out.trans o1)
  | true =>
    rw [ho] at HOr
    have hP := ordB_iff.1 ho
    clear ho
    by_cases hn : nr = no
    · subst hn
      have HB : Hid (∀ i, i < nr → 0 ≤ O i ∧ O i < 1000) := fun i hi => by have := hP.2.1 i hi; omega
      have m0 : 0 < nr := hP.1
      have HCo : Hid (∀ wx, Old w wx → Calls Tryz.prog 58 #[.slice bo nr co] wx (GivF wx nr (fun i => O i + 1))) := fun wx hx => scounted_any bo nr co O wx mr (hO.old hx) HB.out
      have HUj : Hid (∀ i, i < nr → U64 (O i + 1)) := fun i hi => by have := HB.out i hi; exact ⟨by omega, by omega⟩
      obtain ⟨F, hF⟩ : ∃ F : Nat → Int, F = fun i => comI P Q G H (O i + 1) (R i) := ⟨_, rfl⟩
      have HFi : Hid (∀ i, F i = comI P Q G H (O i + 1) (R i)) := fun i => by rw [hF]
      rw [← hF]
      obtain ⟨K, hK0⟩ : ∃ K : Nat → Int, K = fun i => O i + 1 := ⟨_, rfl⟩
      have HK : Hid (∀ i, K i = O i + 1) := fun i => by rw [hK0]
      have HUk : Hid (∀ i, i < nr → U64 (K i)) := fun i hi => by rw [HK.out]; exact HUj.out i hi
      rw [← hK0] at HCo
      have HRu : Hid (∀ i, i < nr → U64 (R i)) := hR.u64
      have H4 : Hid (Four P Q G H) := h4
      have HRi : Hid (Righ P Q G) := hr
      clear hF hO hR h4 hr hP HB hK0 HUj
      simp only [decide_true, Bool.and_self, if_true]
      have hmk := make_run nr mr
      go_enter Tryz.func20, Tryz.ntmps20
      go_upto_region 1 with fail
      generalize w.alloc (.cells (gc P Q G H a n cap) 25) = W at *
      have HG : Hid (∀ wx, Old W wx → wx.heap[w.heap.size]? = some (.cells (gc P Q G H a n cap) 25 (0, 0))) := HG0
      clear HG0
      go_upto_region 3 with (go_at_call 50; refine (HOr.out _ HW0.out).mono ?_; rintro e w1 ⟨rfl, o1⟩)
      go_upto_region 4 with fail
      have HFu := full_zero w1 nr F
      have HW1 : Hid (Old W (w1.alloc (.cells (madeCells #[Value.int .u64 0] nr) 22))) := o1.alloc _
      have hs1 := o1.size
      generalize w1.alloc (.cells (madeCells #[Value.int .u64 0] nr) 22) = W1 at *
      go_upto_region 5 with (go_at_call 58; refine (HCo.out _ (HW0.out.trans HW1.out)).mono ?_; rintro e w2 ⟨o2, bk, hbk, rfl, hful⟩; have HK2 : Hid (Full w2 bk nr K) := hful; have HFu2 : Hid (Full w2 w1.heap.size nr (upTo 0 F)) := HFu.old o2; have HW2 : Hid (Old W w2) := HW1.out.trans o2; have hne : bk ≠ w1.heap.size := (by have := HFu.lt; omega); clear hful o2)
      go_loopw [26] (fun iv wx => ∃ i : Nat, iv = .int .i64 (i : Int) ∧ i ≤ nr ∧ Hid (Full wx w1.heap.size nr (upTo i F)) ∧ Hid (Full wx bk nr K) ∧ Hid (Old W wx)) (fun iv _ => nr - (intOf iv).toNat)
      case atStart => exact ⟨0, rfl, Nat.zero_le _, HFu2, HK2, HW2⟩
      case round =>
        obtain ⟨i, rfl, hi1, HN, HKx, HW⟩ := hrel
        by_cases hlt : i < nr
        · rcases HX.out with h0 | ⟨bx, ox, hqx, _, hrx⟩
          · omega
          have HR : Hid (∀ wx, Old wr wx → wx.cell? ⟨bx, ox + i, none⟩ = some (.int .u64 (R i))) := fun wx hx => ((HW0.out.trans HW.out).trans hx).cellOf (hrx i hlt).1
          have HGr : Hid (∀ wx, Old wr wx → wx.heap[w.heap.size]? = some (.cells (gc P Q G H a n cap) 25 (0, 0))) := fun wx hx => HG.out _ (HW.out.trans hx)
          clear hrx
          subst hqx
          have ck := HKx.out.cell i hlt
          go_upto_region 7 with fail
          refine wp_region_tab 10 [.k (.slice (some ⟨w1.heap.size, 0, none⟩) nr nr), .k (.int .i64 (i : Int)), .k (gv P Q G H a n cap), .k (.int .u64 (K i)), .k (.slice (some ⟨bx, ox, none⟩) nr cr), .k (.int .i64 (i : Int)), .k (.pointer (some ⟨bx, ox + i, none⟩)), .k (.int .u64 (R i)), .k (.int .u64 (F i)), .k (.pointer (some ⟨w1.heap.size, i, none⟩))] (Old wr) (by kernel_rfl) (by kernel_rfl) rfl ((Old.refl _).drew) ?st ?_
          case st =>
            refine .c stp <|
              .c stp <|
              .c (sts Tryz.underlying25 HGr.out) <|
              .c stp <|
              .c stp <|
              .c stp <|
              .c (sti (c := cr) hlt Tryz.underlying29) <|
              .c (stl Tryz.underlying22 HR.out) <|
              .c (stK old_R Tryz.func59 (fun wx _ => by rw [HFi.out, ← HK.out]; exact scommit_any P Q G H a n cap (K i) (R i) wx H4.out HRi.out (HUk.out i hlt) (HRu.out i hlt))) <|
              .c (sti0 (c := nr) hlt Tryz.underlying29) .n
          intro t wx hR hk
          simp only [fill, Ent.val, List.set_cons_zero, List.set_cons_succ, List.drop_succ_cons, List.drop_zero, List.drop_nil]
          have HNx : Hid (Full wx w1.heap.size nr (upTo i F)) := HN.out.old hR
          have HG1 : Hid (Full (wx.setCell ⟨w1.heap.size, i, none⟩ (.int .u64 (F i))) w1.heap.size nr (upTo (i + 1) F)) := HNx.out.next
          have HKn : Hid (Full (wx.setCell ⟨w1.heap.size, i, none⟩ (.int .u64 (F i))) bk nr K) := (HKx.out.old hR).other (p := ⟨w1.heap.size, i, none⟩) hne _
          have HG2 : Hid (Old W (wx.setCell ⟨w1.heap.size, i, none⟩ (.int .u64 (F i)))) := (HW.out.trans hR).setCell hs1 _
          have q0 := HNx.out.cell i hlt
          have f0 := HNx.out.free i
          clear hR hk
          go_wp2_with fail
          go_roundw
          case rel => exact ⟨i + 1, idx_next i, by omega, HG1, HKn, HG2⟩
          case measure => simp [intOf]; omega
        · have he : nr = i := by omega
          subst he
          have HD : Hid (Nums wr w.heap.size (.slice (some ⟨w1.heap.size, 0, none⟩) nr nr) nr F) := HN.out.done.nums (Nat.le_trans HW0.out.size hs1) (by omega)
          go_wp2_with fail
          go_ret
          exact ⟨HW0.out.trans HW.out, _, rfl, HD.out⟩
    · have k1 : ¬ (nr : Int) = (no : Int) := by omega
      have k2 : ((nr : Int) != (no : Int)) = true := by simp; omega
      have HN : Hid ((if (true && decide (nr = no)) = true then no else 0) = 0) := by unfold Hid; simp [hn]
      clear hO hR h4 hr hP HG0
      rw [HN.out]
      go_enter Tryz.func20, Tryz.ntmps20
      go_upto_region 1 with fail
      generalize w.alloc (.cells (gc P Q G H a n cap) 25) = W at *
      go_wp2_with (go_at_call 50; refine (HOr.out _ HW0.out).mono ?_; rintro e w1 ⟨rfl, o1⟩)
      go_ret
      exact givL_none _ (HW0.out.trans o1)

set_option maxRecDepth 100000 in
set_option maxHeartbeats 8000000 in
theorem ssecond_any (P Q G H : Int) (a : Option Addr) (n cap : Nat) (bo : Option Addr) (no co : Nat) (O : Nat → Int) (X : Int) (br : Option Addr) (nr cr : Nat) (R : Nat → Int) (w : World) (h4 : Four P Q G H) (hr : Righ P Q G) (hXu : U64 X) (mo : no ≤ 80) (mr : nr ≤ 80) (hO : IntsIn w bo no O) (hR : FacsIn w br nr R) :
    Calls Tryz.prog 22 #[gv P Q G H a n cap, .slice bo no co, .int .u64 X, .slice br nr cr] w (GivL w (if ordB no O && decide (nr = no) then no else 0) (fun i => comI P Q G H (powI X (O i + 1) Q) (R i))) := by
  have HX : Hid (FacsIn w br nr R) := hR
  have HZ := lain1 w (gc P Q G H a n cap) 25
  have HG0 := fun w' ho => (HZ.then (W' := w') ho).row 0 (by simp)
  have HW0 : Hid (Old w (w.alloc (.cells (gc P Q G H a n cap) 25))) := HZ.old
  have HOr : Hid (∀ wx, Old w wx → Calls Tryz.prog 50 #[.slice bo no co] wx (Ret wx (.bool (ordB no O)))) := fun wx ho => sorder_any bo no co O wx (by omega) (hO.old ho)
  cases ho : ordB no O with
  | false =>
    rw [ho] at HOr
    clear ho hO hR h4 hr HG0
    go_enter Tryz.func22, Tryz.ntmps22
    go_upto_region 1 with fail
    generalize w.alloc (.cells (gc P Q G H a n cap) 25) = W at *
    go_wp2_with (go_at_call 50; refine (HOr.out _ HW0.out).mono ?_; rintro e w1 ⟨rfl, o1⟩)
    go_ret
    exact givL_none _ (HW0.out.trans o1)
  | true =>
    rw [ho] at HOr
    have hP := ordB_iff.1 ho
    clear ho
    by_cases hn : nr = no
    · subst hn
      have HB : Hid (∀ i, i < nr → 0 ≤ O i ∧ O i < 1000) := fun i hi => by have := hP.2.1 i hi; omega
      have m0 : 0 < nr := hP.1
      have HCo : Hid (∀ wx, Old w wx → Calls Tryz.prog 58 #[.slice bo nr co] wx (GivF wx nr (fun i => O i + 1))) := fun wx hx => scounted_any bo nr co O wx mr (hO.old hx) HB.out
      have HUj : Hid (∀ i, i < nr → U64 (O i + 1)) := fun i hi => by have := HB.out i hi; exact ⟨by omega, by omega⟩
      obtain ⟨F, hF⟩ : ∃ F : Nat → Int, F = fun i => comI P Q G H (powI X (O i + 1) Q) (R i) := ⟨_, rfl⟩
      have HFi : Hid (∀ i, F i = comI P Q G H (powI X (O i + 1) Q) (R i)) := fun i => by rw [hF]
      rw [← hF]
      obtain ⟨K, hK0⟩ : ∃ K : Nat → Int, K = fun i => O i + 1 := ⟨_, rfl⟩
      have HK : Hid (∀ i, K i = O i + 1) := fun i => by rw [hK0]
      have HUk : Hid (∀ i, i < nr → U64 (K i)) := fun i hi => by rw [HK.out]; exact HUj.out i hi
      rw [← hK0] at HCo
      have HRu : Hid (∀ i, i < nr → U64 (R i)) := hR.u64
      have H4 : Hid (Four P Q G H) := h4
      have HRi : Hid (Righ P Q G) := hr
      clear hF hO hR h4 hr hP HB hK0 HUj
      simp only [decide_true, Bool.and_self, if_true]
      have hmk := make_run nr mr
      go_enter Tryz.func22, Tryz.ntmps22
      go_upto_region 1 with fail
      generalize w.alloc (.cells (gc P Q G H a n cap) 25) = W at *
      have HG : Hid (∀ wx, Old W wx → wx.heap[w.heap.size]? = some (.cells (gc P Q G H a n cap) 25 (0, 0))) := HG0
      clear HG0
      go_upto_region 3 with (go_at_call 50; refine (HOr.out _ HW0.out).mono ?_; rintro e w1 ⟨rfl, o1⟩)
      go_upto_region 4 with fail
      have HFu := full_zero w1 nr F
      have HW1 : Hid (Old W (w1.alloc (.cells (madeCells #[Value.int .u64 0] nr) 22))) := o1.alloc _
      have hs1 := o1.size
      generalize w1.alloc (.cells (madeCells #[Value.int .u64 0] nr) 22) = W1 at *
      go_upto_region 5 with (go_at_call 58; refine (HCo.out _ (HW0.out.trans HW1.out)).mono ?_; rintro e w2 ⟨o2, bk, hbk, rfl, hful⟩; have HK2 : Hid (Full w2 bk nr K) := hful; have HFu2 : Hid (Full w2 w1.heap.size nr (upTo 0 F)) := HFu.old o2; have HW2 : Hid (Old W w2) := HW1.out.trans o2; have hne : bk ≠ w1.heap.size := (by have := HFu.lt; omega); clear hful o2)
      go_loopw [28] (fun iv wx => ∃ i : Nat, iv = .int .i64 (i : Int) ∧ i ≤ nr ∧ Hid (Full wx w1.heap.size nr (upTo i F)) ∧ Hid (Full wx bk nr K) ∧ Hid (Old W wx)) (fun iv _ => nr - (intOf iv).toNat)
      case atStart => exact ⟨0, rfl, Nat.zero_le _, HFu2, HK2, HW2⟩
      case round =>
        obtain ⟨i, rfl, hi1, HN, HKx, HW⟩ := hrel
        by_cases hlt : i < nr
        · rcases HX.out with h0 | ⟨bx, ox, hqx, _, hrx⟩
          · omega
          have HR : Hid (∀ wx, Old wr wx → wx.cell? ⟨bx, ox + i, none⟩ = some (.int .u64 (R i))) := fun wx hx => ((HW0.out.trans HW.out).trans hx).cellOf (hrx i hlt).1
          have HGr : Hid (∀ wx, Old wr wx → wx.heap[w.heap.size]? = some (.cells (gc P Q G H a n cap) 25 (0, 0))) := fun wx hx => HG.out _ (HW.out.trans hx)
          clear hrx
          subst hqx
          have ck := HKx.out.cell i hlt
          go_upto_region 7 with fail
          refine wp_region_tab 14 [.k (.slice (some ⟨w1.heap.size, 0, none⟩) nr nr), .k (.int .i64 (i : Int)), .k (gv P Q G H a n cap), .k (.int .u64 X), .k (.int .u64 (K i)), .k (.pointer (some ⟨w.heap.size, 1, none⟩)), .k (.int .u64 Q), .k (.int .u64 (powI X (K i) Q)), .k (.slice (some ⟨bx, ox, none⟩) nr cr), .k (.int .i64 (i : Int)), .k (.pointer (some ⟨bx, ox + i, none⟩)), .k (.int .u64 (R i)), .k (.int .u64 (F i)), .k (.pointer (some ⟨w1.heap.size, i, none⟩))] (Old wr) (by kernel_rfl) (by kernel_rfl) rfl ((Old.refl _).drew) ?st ?_
          case st =>
            refine .c stp <|
              .c stp <|
              .c (sts Tryz.underlying25 HGr.out) <|
              .c stp <|
              .c stp <|
              .c stp <|
              .c (stf 1 Tryz.underlying22 HGr.out) <|
              .c (stK old_R Tryz.func61 (fun wx _ => spow_any X (K i) Q hXu (HUk.out i hlt) wx)) <|
              .c stp <|
              .c stp <|
              .c (sti (c := cr) hlt Tryz.underlying29) <|
              .c (stl Tryz.underlying22 HR.out) <|
              .c (stK old_R Tryz.func59 (fun wx _ => by rw [HFi.out, ← HK.out]; exact scommit_any P Q G H a n cap _ (R i) wx H4.out HRi.out (u64_pow _ _ _) (HRu.out i hlt))) <|
              .c (sti0 (c := nr) hlt Tryz.underlying29) .n
          intro t wx hR hk
          simp only [fill, Ent.val, List.set_cons_zero, List.set_cons_succ, List.drop_succ_cons, List.drop_zero, List.drop_nil]
          have HNx : Hid (Full wx w1.heap.size nr (upTo i F)) := HN.out.old hR
          have HG1 : Hid (Full (wx.setCell ⟨w1.heap.size, i, none⟩ (.int .u64 (F i))) w1.heap.size nr (upTo (i + 1) F)) := HNx.out.next
          have HKn : Hid (Full (wx.setCell ⟨w1.heap.size, i, none⟩ (.int .u64 (F i))) bk nr K) := (HKx.out.old hR).other (p := ⟨w1.heap.size, i, none⟩) hne _
          have HG2 : Hid (Old W (wx.setCell ⟨w1.heap.size, i, none⟩ (.int .u64 (F i)))) := (HW.out.trans hR).setCell hs1 _
          have q0 := HNx.out.cell i hlt
          have f0 := HNx.out.free i
          clear hR hk
          go_wp2_with fail
          go_roundw
          case rel => exact ⟨i + 1, idx_next i, by omega, HG1, HKn, HG2⟩
          case measure => simp [intOf]; omega
        · have he : nr = i := by omega
          subst he
          have HD : Hid (Nums wr w.heap.size (.slice (some ⟨w1.heap.size, 0, none⟩) nr nr) nr F) := HN.out.done.nums (Nat.le_trans HW0.out.size hs1) (by omega)
          go_wp2_with fail
          go_ret
          exact ⟨HW0.out.trans HW.out, _, rfl, HD.out⟩
    · have k1 : ¬ (nr : Int) = (no : Int) := by omega
      have k2 : ((nr : Int) != (no : Int)) = true := by simp; omega
      have HN : Hid ((if (true && decide (nr = no)) = true then no else 0) = 0) := by unfold Hid; simp [hn]
      clear hO hR h4 hr hP HG0
      rw [HN.out]
      go_enter Tryz.func22, Tryz.ntmps22
      go_upto_region 1 with fail
      generalize w.alloc (.cells (gc P Q G H a n cap) 25) = W at *
      go_wp2_with (go_at_call 50; refine (HOr.out _ HW0.out).mono ?_; rintro e w1 ⟨rfl, o1⟩)
      go_ret
      exact givL_none _ (HW0.out.trans o1)

end Go.Proofs.YtlnmjbbpenhdbaaGreat

namespace Go.Proofs.YtlnmjbbpenhdbaaGreat
open Go.RowKit
set_option linter.unusedSimpArgs false

theorem flat_at (C : Nat → Nat → Int) (j k : Nat) (hk : k < 6) : flatF C (6 * j + k) = C j k := by
  unfold flatF
  rw [show (6 * j + k) / 6 = j by omega, show (6 * j + k) % 6 = k by omega]
theorem make6_run (n : Nat) (h : n ≤ 1000) (w : World) : (Instr.makeSlice 29 (.int .i64 0) (.int .i64 (6 * (n : Int)))).run Tryz.prog w = .ok (.slice (some ⟨w.heap.size, 0, none⟩) 0 (6 * n)) (w.alloc (.cells (madeCells #[Value.int .u64 0] (6 * n)) 22)) := by
  obtain ⟨i, hi, hzz⟩ := Option.map_eq_some_iff.1 u64info
  simp only [Prod.mk.injEq] at hzz
  obtain ⟨hz, hs, hb⟩ := hzz
  have hr := run_make (P := Tryz.prog) w 29 22 i (.int .u64 0) Tryz.underlying29 hi hz .i64 .i64 0 (6 * (n : Int)) (Int.le_refl _) (by omega) (by rw [hb]; omega) (by omega)
  have e : (6 * (n : Int)).toNat = 6 * n := by omega
  rw [e, hs, Nat.mul_one] at hr
  exact hr
theorem nums_two {w : World} {base k : Nat} {v : Value} {F : Nat → Int} {x y : Int} (h : w.ownsRow base 22 1 v (k + 2) ((List.range k).map (fun i => Value.int .u64 (F i)) ++ [.int .u64 x, .int .u64 y])) (hx : F k = x) (hy : F (k + 1) = y) : Nums w base v (k + 2) F := by
  unfold Nums
  rw [List.range_succ, List.range_succ, List.map_append, List.map_append]
  simpa [hx, hy] using h

set_option maxRecDepth 100000 in
set_option maxHeartbeats 4000000 in
theorem snumbers_any (b : Option Addr) (m c : Nat) (C : Nat → Nat → Int) (w : World) (hm : m ≤ 1000) (h : BoxsIn w b m C) :
    Calls Tryz.prog 104 #[.slice b m c] w (GivL w (6 * m) (flatF C)) := by
  obtain ⟨i0, hi0, hz0, hz1, hz2⟩ := info_parts u64info
  have HX : Hid (BoxsIn w b m C) := h
  clear h
  have hmk := make6_run m hm
  have HO0 : Hid (Nums (w.alloc (.cells (madeCells #[Value.int .u64 0] (6 * m)) 22)) w.heap.size (.slice (some ⟨w.heap.size, 0, none⟩) 0 (6 * m)) 0 (flatF C)) := World.ownsRow_made w _ (6 * m) (Nat.le_refl _) (by unfold maxLen; omega) (by rw [size_madeCells]; omega)
  have HW0 : Hid (Old w (w.alloc (.cells (madeCells #[Value.int .u64 0] (6 * m)) 22))) := (Old.refl _).alloc _
  go_enter Tryz.func104, Tryz.ntmps104
  go_upto_region 2 with fail
  generalize w.alloc (.cells (madeCells #[Value.int .u64 0] (6 * m)) 22) = W1 at *
  go_upto_region 3 with fail
  go_loopw [3, 14] (fun v iv wx => ∃ i : Nat, iv = .int .i64 (i : Int) ∧ i ≤ m ∧ Hid (Nums wx w.heap.size v (6 * i) (flatF C)) ∧ Hid (Old w wx)) (fun _ iv _ => m - (intOf iv).toNat)
  case atStart => exact ⟨0, rfl, Nat.zero_le _, HO0, HW0⟩
  case round =>
    obtain ⟨i, rfl, hi, HV, HO⟩ := hrel
    by_cases hlt : i < m
    · rcases HX.out.old HO.out with h0 | ⟨bx, ox, hqx, _, hrx⟩
      · omega
      have c0 : wr.cell? ⟨bx, ox + i * 6, none⟩ = some (.int .u64 (C i 0)) := (hrx i hlt 0 (by omega)).1
      have c1 := (hrx i hlt 1 (by omega)).1
      have c2 := (hrx i hlt 2 (by omega)).1
      have c3 := (hrx i hlt 3 (by omega)).1
      have c4 := (hrx i hlt 4 (by omega)).1
      have c5 := (hrx i hlt 5 (by omega)).1
      clear hrx
      subst hqx
      have HU : Hid (∀ k, k < 3 → flatF C (6 * i + 2 * k) = tri7 (C i 0) (C i 2) (C i 4) k ∧ flatF C (6 * i + 2 * k + 1) = tri7 (C i 1) (C i 3) (C i 5) k) := fun k hk => by
        rw [flat_at C i (2 * k) (by omega), Nat.add_assoc, flat_at C i (2 * k + 1) (by omega)]
        match k, hk with
        | 0, _ => exact ⟨rfl, rfl⟩
        | 1, _ => exact ⟨rfl, rfl⟩
        | 2, _ => exact ⟨rfl, rfl⟩
      generalize C i 0 = x0 at *
      generalize C i 1 = x1 at *
      generalize C i 2 = x2 at *
      generalize C i 3 = x3 at *
      generalize C i 4 = x4 at *
      generalize C i 5 = x5 at *
      go_upto_region 5 with fail
      have HVa : Hid (Nums (wr.alloc (.cells #[.int .u64 x0, .int .u64 x1, .int .u64 x2, .int .u64 x3, .int .u64 x4, .int .u64 x5] 74)) w.heap.size u3 (6 * i) (flatF C)) := HV.out.old ((Old.refl _).alloc _)
      have HOa : Hid (Old w (wr.alloc (.cells #[.int .u64 x0, .int .u64 x1, .int .u64 x2, .int .u64 x3, .int .u64 x4, .int .u64 x5] 74))) := HO.out.alloc _
      go_upto_region 6 with fail
      generalize wr.alloc (.cells #[.int .u64 x0, .int .u64 x1, .int .u64 x2, .int .u64 x3, .int .u64 x4, .int .u64 x5] 74) = Wb at *
      go_loopw [3, 19] (fun v sv wx => ∃ k : Nat, sv = .int .i64 (k : Int) ∧ k ≤ 3 ∧ Hid (Nums wx w.heap.size v (6 * i + 2 * k) (flatF C)) ∧ Hid (Old w wx)) (fun _ sv _ => 3 - (intOf sv).toNat)
      case atStart => exact ⟨0, rfl, Nat.zero_le _, HVa, HOa⟩
      case round =>
        obtain ⟨k, rfl, hk, HV2, HO2⟩ := hrel
        by_cases hkl : k < 3
        · have hU := HU.out k hkl
          have hbx := box_at x0 x1 x2 x3 x4 x5 k hkl
          generalize tri7 x0 x2 x4 k = xu at *
          generalize tri7 x1 x3 x5 k = xv at *
          have HU1 : Hid (flatF C (6 * i + 2 * k) = xu) := hU.1
          have HU2 : Hid (flatF C (6 * i + 2 * k + 1) = xv) := hU.2
          clear hU
          have k1 : (k : Int) < 3 := by omega
          go_upto_region 8 with fail
          have HVp : Hid (Nums (wr.alloc (.cells #[.int .u64 xu, .int .u64 xv] 69)) w.heap.size u3 (6 * i + 2 * k) (flatF C)) := HV2.out.old ((Old.refl _).alloc _)
          have HOp : Hid (Old w (wr.alloc (.cells #[.int .u64 xu, .int .u64 xv] 69))) := HO2.out.alloc _
          have e0 : (wr.alloc (.cells #[.int .u64 xu, .int .u64 xv] 69)).cell? ⟨wr.heap.size, 0, none⟩ = some (.int .u64 xu) := cell_of_row _ _ 0 _ _ (0, 0) (heap_alloc_last _ _)
          have e1 : (wr.alloc (.cells #[.int .u64 xu, .int .u64 xv] 69)).cell? ⟨wr.heap.size, 1, none⟩ = some (.int .u64 xv) := cell_of_row _ _ 1 _ _ (0, 0) (heap_alloc_last _ _)
          have hb : w.heap.size ≤ (wr.alloc (.cells #[.int .u64 xu, .int .u64 xv] 69)).heap.size := HOp.out.size
          generalize wr.heap.size = sp at *
          generalize wr.alloc (.cells #[.int .u64 xu, .int .u64 xv] 69) = Wp at *
          go_wp2_with (at_builtin; refine wpList_append_own _ rfl _ _ 29 rfl w.heap.size 22 i0 (.int .u64 0) 1 8 Tryz.underlying29 hi0 hz0 hz1 hz2 rfl (by decide) _ _ _ rfl (World.ownsRow.alloc HVp.out _) ⟨Wp.heap.size, 0, none⟩ 2 2 [.int .u64 xu, .int .u64 xv] rfl rfl ?c1 ?c2 ?c3 ?c4 ?c5 ?_)
          case c1 => exact World.news_of_block (heap_alloc_last _ _)
          case c2 => intro u hu; simp at hu; rcases hu with rfl | rfl <;> rfl
          case c3 => unfold maxLen; omega
          case c4 => omega
          case c5 => simp; omega
          intro v' w1 hown' hgrow hne
          have HV3 : Hid (Nums w1 w.heap.size v' (6 * i + 2 * (k + 1)) (flatF C)) := nums_two (k := 6 * i + 2 * k) hown' HU1.out HU2.out
          have HO3 : Hid (Old w w1) := old_app HOp.out HVp.out hgrow
          clear hown' hgrow hne
          go_wp2_with fail
          go_roundw
          case rel => exact ⟨k + 1, idx_next k, by omega, HV3, HO3⟩
          case measure => simp [intOf]; omega
        · have hk3 : k = 3 := by omega
          subst hk3
          have HV3 : Hid (Nums wr w.heap.size u3 (6 * (i + 1)) (flatF C)) := by have := HV2.out; rwa [show 6 * i + 2 * 3 = 6 * (i + 1) by omega] at this
          go_wp2_with fail
          go_roundw
          case rel => exact ⟨i + 1, idx_next i, by omega, HV3, HO2⟩
          case measure => simp [intOf]; omega
    · have he : m = i := by omega
      subst he
      go_wp2_with fail
      go_ret
      exact ⟨HO.out, _, rfl, HV.out⟩

end Go.Proofs.YtlnmjbbpenhdbaaGreat

namespace Go.Proofs.YtlnmjbbpenhdbaaGreat
open Go.RowKit

set_option maxRecDepth 100000 in
set_option maxHeartbeats 4000000 in
theorem lanswer_any : Lanswer := by
  intro P Q G H a n cap b1 n1 c1 X b2 n2 c2 Y e w h4 hr he m1 m2 mc1 mc2 h1 h2
  have HX : Hid (FacsIn w b1 n1 X) := h1
  have HY : Hid (FacsIn w b2 n2 Y) := h2
  have HZ := lain1 w (gc P Q G H a n cap) 25
  by_cases hn : n1 = n2
  · subst hn
    obtain ⟨M, hM⟩ : ∃ M : Nat → Int, M = fun k => mulI e (X k) Q := ⟨_, rfl⟩
    obtain ⟨F, hF⟩ : ∃ F : Nat → Int, F = fun k => ansI Q e (X k) (Y k) := ⟨_, rfl⟩
    have H1 : Hid (∀ i wx, i < n1 → Calls Tryz.prog 72 #[.int .u64 e, .int .u64 (X i), .int .u64 Q] wx fun r w' => r = .returned (.int .u64 (M i)) ∧ Old wx w') := fun i wx hi => (mul_any e (X i) Q wx he.1 he.2 (h1.u64 i hi).1 (h1.u64 i hi).2).mono fun r w' ⟨h, k⟩ => ⟨by rw [h, hM], (Old.refl _).draws k⟩
    have H2 : Hid (∀ i wx, i < n1 → Calls Tryz.prog 71 #[.int .u64 (Y i), .int .u64 (M i), .int .u64 Q] wx fun r w' => r = .returned (.int .u64 (F i)) ∧ Old wx w') := fun i wx hi => (add_any (Y i) (M i) Q wx (h2.u64 i hi).1 (h2.u64 i hi).2 (by rw [hM]; exact (u64_mul _ _ _).1) (by rw [hM]; exact (u64_mul _ _ _).2)).mono fun r w' ⟨h, k⟩ => ⟨by rw [h, hF, hM]; rfl, (Old.refl _).draws k⟩
    rw [← hF]
    clear hF hM he h1 h2 h4 hr
    have hmk := make_run n1 m1
    go_enter Tryz.func43, Tryz.ntmps43
    go_upto_region 1 with fail
    generalize hW : w.alloc (.cells (gc P Q G H a n cap) 25) = W at *
    clear hW
    go_upto_region 4 with fail
    have HFu := full_zero W n1 F
    have HWx : Hid (Old W (W.alloc (.cells (madeCells #[Value.int .u64 0] n1) 22))) := (Old.refl W).alloc _
    have hlt0 : W.heap.size < (W.alloc (.cells (madeCells #[Value.int .u64 0] n1) 22)).heap.size := HFu.lt
    generalize W.alloc (.cells (madeCells #[Value.int .u64 0] n1) 22) = W1 at *
    go_upto_region 5 with fail
    go_loopw [22] (fun iv wx => ∃ i : Nat, iv = .int .i64 (i : Int) ∧ i ≤ n1 ∧ Hid (Full wx W.heap.size n1 (upTo i F)) ∧ Hid (Old W wx)) (fun iv _ => n1 - (intOf iv).toNat)
    case atStart => exact ⟨0, rfl, Nat.zero_le _, HFu, HWx⟩
    case round =>
      obtain ⟨i, rfl, hi1, HN, HW⟩ := hrel
      by_cases hlt : i < n1
      · rcases HX.out with h0 | ⟨bx, ox, hqx, _, hrx⟩
        · omega
        rcases HY.out with h0 | ⟨by_, oy, hqy, _, hry⟩
        · omega
        have HT : Hid (∀ w', Old W w' → w'.cell? ⟨w.heap.size, 1, none⟩ = some (.int .u64 Q) ∧ w'.cell? ⟨bx, ox + i, none⟩ = some (.int .u64 (X i)) ∧ w'.cell? ⟨by_, oy + i, none⟩ = some (.int .u64 (Y i))) := fun w' ho => ⟨(HZ.then ho).cell 0 1 (by simp) rfl, (HZ.old.trans ho).cellOf (hrx i hlt).1, (HZ.old.trans ho).cellOf (hry i hlt).1⟩
        clear hrx hry
        subst hqx hqy
        obtain ⟨dq, cx, cy⟩ := HT.out _ HW.out
        have HM : Hid (∀ wx, Calls Tryz.prog 72 #[.int .u64 e, .int .u64 (X i), .int .u64 Q] wx fun r w' => r = .returned (.int .u64 (M i)) ∧ Old wx w') := fun wx => H1.out i wx hlt
        have HA : Hid (∀ wx, Calls Tryz.prog 71 #[.int .u64 (Y i), .int .u64 (M i), .int .u64 Q] wx fun r w' => r = .returned (.int .u64 (F i)) ∧ Old wx w') := fun wx => H2.out i wx hlt
        go_upto_region 7 with fail
        go_region_held3 (fun w' => w'.cell? ⟨w.heap.size, 1, none⟩ = some (.int .u64 Q) ∧ w'.cell? ⟨bx, ox + i, none⟩ = some (.int .u64 (X i)) ∧ w'.cell? ⟨by_, oy + i, none⟩ = some (.int .u64 (Y i))) (first | exact HT.out _ (h5.setCell (Nat.le_refl _) _) | exact HT.out _ h5 | exact HT.out _ h4 | exact HT.out _ HW.out.drew) (first
          | (go_at_call 72; refine (HM.out _).mono ?_; rintro e w4 ⟨rfl, o4⟩; have h4 : Old W w4 := HW.out.drew.trans o4)
          | (go_at_call 71; refine (HA.out _).mono ?_; rintro e w5 ⟨rfl, o5⟩; have h5 : Old W w5 := h4.trans o5; have hful := HN.out.old (((Old.refl wr).drew.trans o4).trans o5); have q0 := hful.cell i hlt; have f0 := hful.free i))
        have HG : Hid (Full (w5.setCell ⟨W.heap.size, i, none⟩ (.int .u64 (F i))) W.heap.size n1 (upTo (i + 1) F)) := hful.next
        have HG2 : Hid (Old W (w5.setCell ⟨W.heap.size, i, none⟩ (.int .u64 (F i)))) := h5.setCell (Nat.le_refl _) _
        go_wp2_with fail
        go_roundw
        case rel => exact ⟨i + 1, idx_next i, by omega, HG, HG2⟩
        case measure => simp [intOf]; omega
      · have he : n1 = i := by omega
        subst he
        go_wp2_with fail
        go_ret2
        exact gives_yes (by simp) (HN.out.done.nums HZ.old.size (by omega)) (HZ.old.trans HW.out)
  · have k1 : ¬ (n1 : Int) = (n2 : Int) := by omega
    clear he h1 h2 h4 hr
    go_enter Tryz.func43, Tryz.ntmps43
    go_wp2_with fail
    go_ret2
    exact gives_no (by simp [hn]) ((Old.refl _).alloc _)

end Go.Proofs.YtlnmjbbpenhdbaaGreat

namespace Go.Proofs.YtlnmjbbpenhdbaaGreat
open Go.RowKit

/-- Elements all. -/
def elB (P Q : Int) (n : Nat) (F : Nat → Int) : Bool := (List.range n).all fun i => inI P Q (F i)
theorem elB_iff {P Q : Int} {n : Nat} {F : Nat → Int} : elB P Q n F = true ↔ ∀ i, i < n → inI P Q (F i) = true := by simp [elB]
/-- Right as a number of targets or bases. -/
def cntB (n : Nat) : Bool := decide (1 ≤ n) && decide (n ≤ 64)
theorem cntB_iff {n : Nat} : cntB n = true ↔ 1 ≤ n ∧ n ≤ 64 := by simp [cntB]
/-- The lengths fit. -/
def lensB (nt nb : Nat) (L : Nat → Nat) : Bool := cntB nt && (decide (nb = nt) && ((List.range nb).all (fun j => decide (L j = L 0)) && cntB (L 0)))
theorem lensB_iff {nt nb : Nat} {L : Nat → Nat} : lensB nt nb L = true ↔ (1 ≤ nt ∧ nt ≤ 64) ∧ nb = nt ∧ (∀ j, j < nb → L j = L 0) ∧ 1 ≤ L 0 ∧ L 0 ≤ 64 := by
  simp [lensB, cntB_iff]

theorem lels_any (P Q G H : Int) (a : Option Addr) (n cap : Nat) (b : Option Addr) (l c : Nat) (F : Nat → Int) (w : World) (h4 : Four P Q G H) (hl : l ≤ 9223372036854775807) (h1 : FacsIn w b l F) :
    Calls Tryz.prog 97 #[gv P Q G H a n cap, .slice b l c] w fun e w' => e = .returned (.bool (elB P Q l F)) ∧ Old w w' := by
  have HX : Hid (FacsIn w b l F) := h1
  have HZ := lain1 w (gc P Q G H a n cap) 25
  have HI : Hid (∀ i wx, i < l → Calls Tryz.prog 52 #[gv P Q G H a n cap, .int .u64 (F i)] wx fun e w' => e = .returned (.bool (inI P Q (F i))) ∧ Old wx w') := fun i wx hi => gin0 P Q G H (F i) a n cap wx h4.q0 h4.q1 (h1.u64 i hi).2
  clear h4 h1
  go_enter Tryz.func97, Tryz.ntmps97
  go_upto_region 1 with fail
  generalize hW : w.alloc (.cells (gc P Q G H a n cap) 25) = W at *
  clear hW
  go_upto_region 2 with fail
  go_loopw [9] (fun iv wx => ∃ i : Nat, iv = .int .i64 (i : Int) ∧ i ≤ l ∧ Hid (∀ j, j < i → inI P Q (F j) = true) ∧ Hid (Old W wx)) (fun iv _ => l - (intOf iv).toNat)
  case atStart => exact ⟨0, rfl, Nat.zero_le _, fun j hj => by omega, Old.refl _⟩
  case round =>
    obtain ⟨i, rfl, hi1, HJ, HW⟩ := hrel
    by_cases hlt : i < l
    · rcases HX.out with h0 | ⟨bx, ox, hqx, _, hrx⟩
      · omega
      have cx := (HZ.old.trans HW.out).cellOf (hrx i hlt).1
      clear hrx
      subst hqx
      have d0 := (HZ.then HW.out).cell 0 0 (by simp) rfl
      have d1 := (HZ.then HW.out).cell 0 1 (by simp) rfl
      have d2 := (HZ.then HW.out).cell 0 2 (by simp) rfl
      have d3 := (HZ.then HW.out).cell 0 3 (by simp) rfl
      have d4 := (HZ.then HW.out).cell 0 4 (by simp) rfl
      simp only [Nat.add_zero] at d0 d1 d2 d3 d4
      cases hin : inI P Q (F i) with
      | true =>
        have HM : Hid (inI P Q (F i) = true) := hin
        have HC : Hid (∀ wx, Calls Tryz.prog 52 #[gv P Q G H a n cap, .int .u64 (F i)] wx fun e w' => e = .returned (.bool true) ∧ Old wx w') := fun wx => by have := HI.out i wx hlt; rwa [hin] at this
        clear hin
        go_wp2_with (go_at_call 52; refine (HC.out _).mono ?_; rintro e w1 ⟨rfl, o1⟩)
        go_roundw
        case rel => exact ⟨i + 1, idx_next i, by omega, upto_succ HJ.out HM.out, HW.out.trans o1⟩
        case measure => simp [intOf]; omega
      | false =>
        have HN : Hid (elB P Q l F = false) := no_of fun hc => by have := elB_iff.1 hc i hlt; rw [hin] at this; cases this
        have HC : Hid (∀ wx, Calls Tryz.prog 52 #[gv P Q G H a n cap, .int .u64 (F i)] wx fun e w' => e = .returned (.bool false) ∧ Old wx w') := fun wx => by have := HI.out i wx hlt; rwa [hin] at this
        clear hin
        go_wp2_with (go_at_call 52; refine (HC.out _).mono ?_; rintro e w1 ⟨rfl, o1⟩)
        go_ret
        exact ⟨ret_bool HN.out.symm, (HZ.old.trans HW.out).trans o1⟩
    · have he : l = i := by omega
      subst he
      have HN : Hid (elB P Q l F = true) := elB_iff.2 HJ.out
      go_wp2_with fail
      go_ret
      exact ⟨ret_bool HN.out.symm, HZ.old.trans HW.out⟩

theorem lcount_any (n : Nat) (w : World) (hn : n ≤ 9223372036854775807) :
    Calls Tryz.prog 137 #[.int .i64 (n : Int)] w fun e w' => e = .returned (.bool (cntB n)) ∧ w' = w := by
  by_cases h1 : 1 ≤ n
  · have HE : Hid (cntB n = decide (n ≤ 64)) := by unfold Hid cntB; simp [h1]
    by_cases h2 : n ≤ 64
    · have HE2 : Hid (cntB n = true) := HE.out.trans (by simp [h2])
      clear HE
      have k1 : (1 : Int) ≤ (n : Int) := by omega
      have k2 : (n : Int) ≤ 64 := by omega
      go_enter Tryz.func137, Tryz.ntmps137
      go_wp2_with fail
      go_ret
      exact ⟨ret_bool HE2.out.symm, by first | trivial | rfl⟩
    · have HE2 : Hid (cntB n = false) := HE.out.trans (by simp [h2])
      clear HE
      have k1 : (1 : Int) ≤ (n : Int) := by omega
      have k2 : ¬ (n : Int) ≤ 64 := by omega
      go_enter Tryz.func137, Tryz.ntmps137
      go_wp2_with fail
      go_ret
      exact ⟨ret_bool HE2.out.symm, by first | trivial | rfl⟩
  · have HE : Hid (cntB n = false) := by unfold Hid cntB; simp [h1]
    have k1 : ¬ (1 : Int) ≤ (n : Int) := by omega
    go_enter Tryz.func137, Tryz.ntmps137
    go_wp2_with fail
    go_ret
    exact ⟨ret_bool HE.out.symm, by first | trivial | rfl⟩

set_option maxHeartbeats 1000000 in
theorem llens_any (bt : Option Addr) (nt ct : Nat) (T : Nat → Int) (bb : Option Addr) (nb cb : Nat) (BA : Nat → Option Addr) (L C : Nat → Nat) (B : Nat → Nat → Int) (w : World) (hcl : ClaimIn w bt nt ct T bb nb cb BA L C B) :
    Calls Tryz.prog 96 #[cv bt nt ct bb nb cb] w fun e w' => e = .returned (.bool (lensB nt nb L)) ∧ Old w w' := by
  have HB : Hid (ListsIn w bb nb BA L C B) := hcl.bas
  have HZ := lain1 w (cc bt nt ct bb nb cb) 50
  have mt : nt ≤ 9223372036854775807 := Nat.le_trans hcl.tc hcl.tm
  have mb : nb ≤ 9223372036854775807 := Nat.le_trans hcl.bc hcl.bm
  clear hcl
  have z0 := HZ.cell 0 0 (by simp) rfl
  have z1 := HZ.cell 0 1 (by simp) rfl
  simp only [Nat.add_zero] at z0 z1
  cases ht : cntB nt with
  | false =>
    have HN : Hid (lensB nt nb L = false) := by unfold Hid lensB; simp [ht]
    have HC : Hid (∀ wx, Calls Tryz.prog 137 #[.int .i64 (nt : Int)] wx fun e w' => e = .returned (.bool false) ∧ w' = wx) := fun wx => by have := lcount_any nt wx mt; rwa [ht] at this
    clear ht
    go_enter Tryz.func96, Tryz.ntmps96
    go_wp2_with (go_at_call 137; refine (HC.out _).mono ?_; rintro e w1 ⟨rfl, rfl⟩)
    go_ret
    exact ⟨ret_bool HN.out.symm, HZ.old⟩
  | true =>
    have HC : Hid (∀ wx, Calls Tryz.prog 137 #[.int .i64 (nt : Int)] wx fun e w' => e = .returned (.bool true) ∧ w' = wx) := fun wx => by have := lcount_any nt wx mt; rwa [ht] at this
    have t1 := (cntB_iff.1 ht).1
    by_cases hn : nb = nt
    · subst hn
      have HE : Hid (lensB nb nb L = ((List.range nb).all (fun j => decide (L j = L 0)) && cntB (L 0))) := by unfold Hid lensB; simp [ht]
      clear ht
      have hB := HB.out
      rcases hB with h0 | ⟨bx, ox, hqx, _, hrx⟩
      · omega
      have HR : Hid (∀ w' j, Old w w' → j < nb → w'.cell? ⟨bx, ox + j, none⟩ = some (.slice (BA j) (L j) (C j)) ∧ L j ≤ 9223372036854775807) := fun w' j ho hj => ⟨ho.cellOf (hrx j hj).1, Nat.le_trans (hrx j hj).2.1 (hrx j hj).2.2.1⟩
      clear hrx
      subst hqx
      have c0 := HR.out _ 0 HZ.old t1
      simp only [Nat.add_zero] at c0
      have m0 := c0.2
      have e0 := c0.1
      clear c0
      have HC2 : Hid (∀ wx, Calls Tryz.prog 137 #[.int .i64 (L 0 : Int)] wx fun e w' => e = .returned (.bool (cntB (L 0))) ∧ w' = wx) := fun wx => lcount_any (L 0) wx m0
      generalize hl0 : L 0 = l0 at *
      have HL0 : Hid (L 0 = l0) := hl0
      clear hl0
      generalize hcb : cntB l0 = cl at *
      clear hcb
      have hpos : (0 : Int) < (nb : Int) := by omega
      go_enter Tryz.func96, Tryz.ntmps96
      go_upto_region 1 with fail
      generalize hW : w.alloc (.cells (cc bt nb ct (some ⟨bx, ox, none⟩) nb cb) 50) = W at *
      clear hW
      go_upto_region 5 with (go_at_call 137; refine (HC.out _).mono ?_; rintro e w1 ⟨rfl, rfl⟩)
      go_loopw [28] (fun iv wx => ∃ i : Nat, iv = .int .i64 (i : Int) ∧ i ≤ nb ∧ Hid (∀ j, j < i → L j = l0) ∧ Hid (Old w wx)) (fun iv _ => nb - (intOf iv).toNat)
      case atStart => exact ⟨0, rfl, Nat.zero_le _, fun j hj => by omega, HZ.old⟩
      case round =>
        obtain ⟨i, rfl, hi1, HJ, HW⟩ := hrel
        by_cases hlt : i < nb
        · obtain ⟨cx, mx⟩ := HR.out _ i HW.out hlt
          by_cases he : L i = l0
          · have HM : Hid (L i = l0) := he
            rw [he] at cx
            clear he mx
            go_wp2_with fail
            go_roundw
            case rel => exact ⟨i + 1, idx_next i, by omega, upto_succ HJ.out HM.out, HW.out⟩
            case measure => simp [intOf]; omega
          · have k1 : ¬ (L i : Int) = (l0 : Int) := by omega
            have HN : Hid (((List.range nb).all (fun j => decide (L j = l0)) && cl) = false) := no_of fun hc => by
              rw [Bool.and_eq_true] at hc
              have := List.all_eq_true.1 hc.1 i (List.mem_range.2 hlt)
              simp at this
              exact he this
            go_wp2_with fail
            go_ret
            exact ⟨by rw [HE.out]; exact ret_bool HN.out.symm, HW.out⟩
        · have he : nb = i := by omega
          have HN : Hid (((List.range nb).all (fun j => decide (L j = l0)) && cl) = cl) := by
            have : (List.range nb).all (fun j => decide (L j = l0)) = true := List.all_eq_true.2 fun j hj => by simp [HJ.out j (he ▸ List.mem_range.1 hj)]
            unfold Hid
            rw [this, Bool.true_and]
          subst he
          go_wp2_with (go_at_call 137; refine (HC2.out _).mono ?_; rintro e w1 ⟨rfl, rfl⟩)
          go_ret
          exact ⟨by rw [HE.out, HN.out]; rfl, HW.out⟩
    · have HN : Hid (lensB nt nb L = false) := by unfold Hid lensB; simp [hn]
      have k1 : ¬ (nb : Int) = (nt : Int) := by omega
      clear ht
      go_enter Tryz.func96, Tryz.ntmps96
      go_wp2_with (go_at_call 137; refine (HC.out _).mono ?_; rintro e w1 ⟨rfl, rfl⟩)
      go_ret
      exact ⟨ret_bool HN.out.symm, HZ.old⟩

end Go.Proofs.YtlnmjbbpenhdbaaGreat

namespace Go.Proofs.YtlnmjbbpenhdbaaGreat
open Go.RowKit

theorem sels_any (P Q G H : Int) (a : Option Addr) (n cap : Nat) (b : Option Addr) (l c : Nat) (F : Nat → Int) (w : World) (h4 : Four P Q G H) (hl : l ≤ 9223372036854775807) (h1 : FacsIn w b l F) :
    Calls Tryz.prog 103 #[gv P Q G H a n cap, .slice b l c] w fun e w' => e = .returned (.bool (elB P Q l F)) ∧ Old w w' := by
  have HX : Hid (FacsIn w b l F) := h1
  have HZ := lain1 w (gc P Q G H a n cap) 25
  have HI : Hid (∀ i wx, i < l → Calls Tryz.prog 52 #[gv P Q G H a n cap, .int .u64 (F i)] wx fun e w' => e = .returned (.bool (inI P Q (F i))) ∧ Old wx w') := fun i wx hi => gin0 P Q G H (F i) a n cap wx h4.q0 h4.q1 (h1.u64 i hi).2
  clear h4 h1
  go_enter Tryz.func103, Tryz.ntmps103
  go_upto_region 1 with fail
  generalize hW : w.alloc (.cells (gc P Q G H a n cap) 25) = W at *
  clear hW
  go_upto_region 2 with fail
  go_loopw [9] (fun iv wx => ∃ i : Nat, iv = .int .i64 (i : Int) ∧ i ≤ l ∧ Hid (∀ j, j < i → inI P Q (F j) = true) ∧ Hid (Old W wx)) (fun iv _ => l - (intOf iv).toNat)
  case atStart => exact ⟨0, rfl, Nat.zero_le _, fun j hj => by omega, Old.refl _⟩
  case round =>
    obtain ⟨i, rfl, hi1, HJ, HW⟩ := hrel
    by_cases hlt : i < l
    · rcases HX.out with h0 | ⟨bx, ox, hqx, _, hrx⟩
      · omega
      have cx := (HZ.old.trans HW.out).cellOf (hrx i hlt).1
      clear hrx
      subst hqx
      have d0 := (HZ.then HW.out).cell 0 0 (by simp) rfl
      have d1 := (HZ.then HW.out).cell 0 1 (by simp) rfl
      have d2 := (HZ.then HW.out).cell 0 2 (by simp) rfl
      have d3 := (HZ.then HW.out).cell 0 3 (by simp) rfl
      have d4 := (HZ.then HW.out).cell 0 4 (by simp) rfl
      simp only [Nat.add_zero] at d0 d1 d2 d3 d4
      cases hin : inI P Q (F i) with
      | true =>
        have HM : Hid (inI P Q (F i) = true) := hin
        have HC : Hid (∀ wx, Calls Tryz.prog 52 #[gv P Q G H a n cap, .int .u64 (F i)] wx fun e w' => e = .returned (.bool true) ∧ Old wx w') := fun wx => by have := HI.out i wx hlt; rwa [hin] at this
        clear hin
        go_wp2_with (go_at_call 52; refine (HC.out _).mono ?_; rintro e w1 ⟨rfl, o1⟩)
        go_roundw
        case rel => exact ⟨i + 1, idx_next i, by omega, upto_succ HJ.out HM.out, HW.out.trans o1⟩
        case measure => simp [intOf]; omega
      | false =>
        have HN : Hid (elB P Q l F = false) := no_of fun hc => by have := elB_iff.1 hc i hlt; rw [hin] at this; cases this
        have HC : Hid (∀ wx, Calls Tryz.prog 52 #[gv P Q G H a n cap, .int .u64 (F i)] wx fun e w' => e = .returned (.bool false) ∧ Old wx w') := fun wx => by have := HI.out i wx hlt; rwa [hin] at this
        clear hin
        go_wp2_with (go_at_call 52; refine (HC.out _).mono ?_; rintro e w1 ⟨rfl, o1⟩)
        go_ret
        exact ⟨ret_bool HN.out.symm, (HZ.old.trans HW.out).trans o1⟩
    · have he : l = i := by omega
      subst he
      have HN : Hid (elB P Q l F = true) := elB_iff.2 HJ.out
      go_wp2_with fail
      go_ret
      exact ⟨ret_bool HN.out.symm, HZ.old.trans HW.out⟩

end Go.Proofs.YtlnmjbbpenhdbaaGreat

namespace Go.Proofs.YtlnmjbbpenhdbaaGreat
open Go.RowKit
set_option linter.unusedSimpArgs false
set_option linter.unusedVariables false

/-- A batch? -/
def batB (P Q : Int) (n : Nat) (C : Nat → Nat → Int) : Bool := cnt8 n && elB P Q (6 * n) (flatF C)
theorem batB_iff {P Q : Int} {n : Nat} {C : Nat → Nat → Int} : batB P Q n C = true ↔ (1 ≤ n ∧ n ≤ 8) ∧ ∀ j, j < n → ∀ k, k < 6 → inI P Q (C j k) = true := by
  unfold batB
  rw [Bool.and_eq_true_iff, cnt8_iff, elB_iff]
  refine and_congr_right fun _ => ⟨fun h j hj k hk => ?_, fun h i hi => h _ (by omega) _ (Nat.mod_lt _ (by omega))⟩
  have := h (6 * j + k) (by omega)
  rwa [flat_at C j k hk] at this
theorem flat_u64 {w : World} {b : Option Addr} {n : Nat} {C : Nat → Nat → Int} (h : BoxsIn w b n C) : ∀ i, i < 6 * n → U64 (flatF C i) := fun i hi => h.u64 (by omega) (Nat.mod_lt _ (by omega))
def numL8 (base k : Nat) (F : Nat → Int) : Ent := .u (fun v w => Nums w base v k F) fun _ _ _ h ho => h.old ho

set_option maxRecDepth 100000 in
theorem sbatch_any (P Q G H : Int) (a : Option Addr) (n cap : Nat) (b : Option Addr) (m c : Nat) (C : Nat → Nat → Int) (w : World) (h4 : Four P Q G H) (hm : m ≤ 1000) (h : BoxsIn w b m C) :
    Calls Tryz.prog 51 #[gv P Q G H a n cap, .slice b m c] w (Ret w (.bool (batB P Q m C))) := by
  have HZ := lain1 w (gc P Q G H a n cap) 25
  have HG0 := fun w' ho => (HZ.then (W' := w') ho).row 0 (by simp)
  have HW0 : Hid (Old w (w.alloc (.cells (gc P Q G H a n cap) 25))) := HZ.old
  have HCn : Hid (∀ wx, Calls Tryz.prog 102 #[.int .i64 (m : Int)] wx (Ret wx (.bool (cnt8 m)))) := fun wx => (scount_any m wx (by omega)).mono fun e w' ⟨h, k⟩ => ⟨h, k ▸ Old.refl _⟩
  clear HZ
  cases hc : cnt8 m with
  | true =>
    rw [hc] at HCn
    go_enter Tryz.func51, Tryz.ntmps51
    go_upto_region 1 with fail
    generalize w.alloc (.cells (gc P Q G H a n cap) 25) = W at *
    have HG : ∀ wx, Old W wx → wx.heap[w.heap.size]? = some (.cells (gc P Q G H a n cap) 25 (0, 0)) := HG0
    refine wp_region_tab 10 [.k (.slice b m c), .k (.int .i64 (m : Nat)), .k (.bool true), .k (.bool true), .k (gv P Q G H a n cap), .k (.slice b m c), numL8 W.heap.size (6 * m) (flatF C), .k (.bool (elB P Q (6 * m) (flatF C))), .k (.bool (elB P Q (6 * m) (flatF C))), .k (.bool (elB P Q (6 * m) (flatF C)))] (Old W) (by kernel_rfl) (by kernel_rfl) rfl ((Old.refl _).drew) ?st ?_
    case st =>
      refine .c stp <|
        .c stp <|
        .c (stK old_R Tryz.func102 (fun wx _ => HCn.out wx)) <|
        .c stp <|
        .c (sts Tryz.underlying25 HG) <|
        .c stp <|
        .c (stC (args := fun t => #[.slice b m c]) old_R Tryz.func104 (fun t wx hR _ => (snumbers_any b m c C wx hm (h.old (HW0.out.trans hR))).mono fun r w' ⟨ho, v, hr, hN⟩ => ⟨v, hr, ho, hN.mono hR.size⟩)) <|
        .c (stC (args := fun t => #[gv P Q G H a n cap, t 6]) old_R Tryz.func103 fun t wx hR hd => ?_) <|
        .c stp <|
        .c stp .n
      have hN : Nums wx W.heap.size (t 6) (6 * m) (flatF C) := hd 6 (by kernel_rfl)
      obtain ⟨b', c', e, _, hf⟩ := hN.facs (flat_u64 h)
      rw [e]
      exact (sels_any P Q G H a n cap b' (6 * m) c' (flatF C) wx h4 (by omega) hf).mono fun r w' ⟨h, k⟩ => ⟨_, h, k, rfl⟩
    intro t wx hR hk
    simp only [fill, Ent.val, numL8, List.set_cons_zero, List.set_cons_succ, List.drop_succ_cons, List.drop_zero, List.drop_nil]
    go_wp2_with fail
    go_ret
    exact ⟨by unfold batB; rw [hc]; rfl, HW0.out.trans hR⟩
  | false =>
    rw [hc] at HCn
    go_enter Tryz.func51, Tryz.ntmps51
    go_upto_region 1 with fail
    generalize w.alloc (.cells (gc P Q G H a n cap) 25) = W at *
    have HG : ∀ wx, Old W wx → wx.heap[w.heap.size]? = some (.cells (gc P Q G H a n cap) 25 (0, 0)) := HG0
    refine wp_region_tab 10 [.k (.slice b m c), .k (.int .i64 (m : Nat)), .k (.bool false), .k (.bool false), .k undef, .k undef, .k undef, .k undef, .k (.bool false), .k (.bool false)] (Old W) (by kernel_rfl) (by kernel_rfl) rfl ((Old.refl _).drew) ?st ?_
    case st =>
      refine .c stp <|
        .c stp <|
        .c (stK old_R Tryz.func102 (fun wx _ => HCn.out wx)) <|
        .c stp <|
        .c stn <|
        .c stn <|
        .c stn <|
        .c stn <|
        .c stp <|
        .c stp .n
    intro t wx hR hk
    simp only [fill, Ent.val, List.set_cons_zero, List.set_cons_succ, List.drop_succ_cons, List.drop_zero, List.drop_nil]
    go_wp2_with fail
    go_ret
    exact ⟨by unfold batB; rw [hc]; rfl, HW0.out.trans hR⟩

end Go.Proofs.YtlnmjbbpenhdbaaGreat

namespace Go.Proofs.YtlnmjbbpenhdbaaGreat
open Go.RowKit
set_option linter.unusedSimpArgs false
set_option linter.unusedVariables false

/-- What is mixed. -/
def mixC (P Q G y : Int) (C : Nat → Nat → Int) (O : Nat → Int) (R : Nat → Nat → Int) : Nat → Nat → Int := fun i k => if k % 2 = 0 then mulI (C (O i).toNat k) (expI P Q G (R i (k / 2))) P else mulI (C (O i).toNat k) (expI P Q y (R i (k / 2))) P
theorem mixC_u64 (P Q G y : Int) (C : Nat → Nat → Int) (O : Nat → Int) (R : Nat → Nat → Int) (i k : Nat) : U64 (mixC P Q G y C O R i k) := by
  unfold mixC
  split <;> exact u64_mul _ _ _
/-- Is anything mixed? -/
def mixB (P Q y : Int) (m : Nat) (C : Nat → Nat → Int) (no : Nat) (O : Nat → Int) (nρ : Nat) : Bool := decide (no = m) && (decide (nρ = m) && (ordB no O && (batB P Q m C && inI P Q y)))
/-- Boxes in a block of their own. -/
def BoxF (w : World) (a : Option Addr) (n : Nat) (C : Nat → Nat → Int) : Prop :=
  n = 0 ∨ ∃ b cs, a = some ⟨b, 0, none⟩ ∧ w.heap[b]? = some (.cells cs 74 (0, 0)) ∧ ∀ j, j < n → ∀ k, k < 6 → cs[j * 6 + k]? = some (.int .u64 (C j k)) ∧ U64 (C j k)
theorem BoxF.boxs {w : World} {a : Option Addr} {n : Nat} {C : Nat → Nat → Int} (h : BoxF w a n C) : BoxsIn w a n C := by
  rcases h with h | ⟨b, cs, rfl, hb, hr⟩
  · exact Or.inl h
  · exact Or.inr ⟨b, 0, rfl, (Array.getElem?_eq_some_iff.1 hb).1, fun j hj k hk => ⟨by rw [Nat.zero_add, cell_of_row _ _ (j * 6 + k) _ _ (0, 0) hb]; exact (hr j hj k hk).1, (hr j hj k hk).2⟩⟩
theorem BoxF.old {w w' : World} {a : Option Addr} {n : Nat} {C : Nat → Nat → Int} (h : BoxF w a n C) (ho : Old w w') : BoxF w' a n C := by
  rcases h with h | ⟨b, cs, rfl, hb, hr⟩
  · exact Or.inl h
  · exact Or.inr ⟨b, cs, rfl, (ho.block _ (Array.getElem?_eq_some_iff.1 hb).1).trans hb, hr⟩
/-- A store into a block of another kind. -/
theorem BoxF.other {w : World} {a : Option Addr} {n : Nat} {C : Nat → Nat → Int} (h : BoxF w a n C) {p : Addr} {cs : Array Value} {t : TypeId} (hp : w.heap[p.block]? = some (.cells cs t (0, 0))) (ht : t ≠ 74) (v : Value) : BoxF (w.setCell p v) a n C := by
  rcases h with h | ⟨b, ds, rfl, hb, hr⟩
  · exact Or.inl h
  · refine Or.inr ⟨b, ds, rfl, (Below.heap_setCell w p v b fun e => ht ?_).trans hb, hr⟩
    rw [e, hp] at hb
    cases hb
    rfl
/-- A new batch, or none. -/
def GivB (w : World) (ok : Bool) (m : Nat) (C : Nat → Nat → Int) (r : Ending) (w' : World) : Prop := Old w w' ∧ ∃ a, r = .returned (.tuple #[.slice a (if ok then m else 0) (if ok then m else 0), .bool ok]) ∧ BoxF w' a (if ok then m else 0) C
theorem givB_no {w w' : World} {ok : Bool} {m : Nat} {C : Nat → Nat → Int} (hok : ok = false) (ho : Old w w') : GivB w ok m C (.returned (.tuple #[.slice none 0 0, .bool false])) w' := by
  subst hok
  exact ⟨ho, none, rfl, Or.inl rfl⟩
/-- The cells of boxes, up to one. -/
def bxV (p : Nat) (C : Nat → Nat → Int) : Nat → Value := fun q => .int .u64 (upTo p (flatF C) q)
theorem boxinfo : (Tryz.prog.info? 74).map (fun i => (i.zero, i.size, i.bytes)) = some (some (.agg #[.int .u64 0, .int .u64 0, .int .u64 0, .int .u64 0, .int .u64 0, .int .u64 0]), 6, 48) := by kernel_rfl
theorem makeb_run (m : Nat) (h : m ≤ 80) (w : World) : (Instr.makeSlice 26 (.int .i64 (m : Int)) (.int .i64 (m : Int))).run Tryz.prog w = .ok (.slice (some ⟨w.heap.size, 0, none⟩) m m) (w.alloc (.cells (madeCells #[Value.int .u64 0, Value.int .u64 0, Value.int .u64 0, Value.int .u64 0, Value.int .u64 0, Value.int .u64 0] (m * 6)) 74)) := by
  obtain ⟨i, hi, hzz⟩ := Option.map_eq_some_iff.1 boxinfo
  simp only [Prod.mk.injEq] at hzz
  obtain ⟨hz, hs, hb⟩ := hzz
  have hr := run_make (P := Tryz.prog) w 26 74 i _ Tryz.underlying26 hi hz .i64 .i64 (m : Int) (m : Int) (by omega) (Int.le_refl _) (by rw [hb]; omega) (by omega)
  rw [Int.toNat_natCast, hs] at hr
  exact hr
theorem fulV_boxs {w : World} {b m : Nat} {C : Nat → Nat → Int} (h : FulV w b (m * 6) 74 (bxV (m * 6) C)) (hC : ∀ i k, U64 (C i k)) : BoxF w (some ⟨b, 0, none⟩) m C := Or.inr ⟨b, _, rfl, h, fun j hj k hk => ⟨by
  rw [List.getElem?_toArray, List.getElem?_map, List.getElem?_range (by omega)]
  show some (bxV (m * 6) C (j * 6 + k)) = _
  unfold bxV upTo
  rw [if_pos (by omega), show j * 6 + k = 6 * j + k by omega, flat_at C j k hk], hC _ _⟩⟩
theorem bxV_next {w : World} {b m p : Nat} {C : Nat → Nat → Int} {x z : Int} (h : FulV w b (m * 6) 74 (bxV p C)) (hx : flatF C p = x) (hz : flatF C (p + 1) = z) : FulV ((w.setCell ⟨b, p, none⟩ (.int .u64 x)).setCell ⟨b, p + 1, none⟩ (.int .u64 z)) b (m * 6) 74 (bxV (p + 2) C) :=
  ((h.set p (.int .u64 x)).set (p + 1) (.int .u64 z)).congr fun k hk => by
    unfold bxV upTo
    by_cases h1 : k = p + 1
    · rw [if_pos h1, if_pos (by omega), h1, hz]
    · rw [if_neg h1]
      by_cases h2 : k = p
      · rw [if_pos h2, if_pos (by omega), h2, hx]
      · rw [if_neg h2]
        by_cases h3 : k < p
        · rw [if_pos h3, if_pos (by omega)]
        · rw [if_neg h3, if_neg (by omega)]

set_option maxRecDepth 100000 in
set_option maxHeartbeats 8000000 in
theorem smix_any (P Q G H : Int) (a : Option Addr) (n cap : Nat) (y : Int) (bi : Option Addr) (m ci : Nat) (C : Nat → Nat → Int) (bo : Option Addr) (no co : Nat) (O : Nat → Int) (bρ : Option Addr) (nρ cρ : Nat) (R : Nat → Nat → Int) (w : World) (h4 : Four P Q G H) (hr : Righ P Q G) (hy : U64 y) (mm : m ≤ 80) (mo : no ≤ 80) (mρ : nρ ≤ 80) (hC : BoxsIn w bi m C) (hO : IntsIn w bo no O) (hR : RhoIn w bρ nρ R) :
    Calls Tryz.prog 15 #[gv P Q G H a n cap, .int .u64 y, .slice bi m ci, .slice bo no co, .slice bρ nρ cρ] w (GivB w (mixB P Q y m C no O nρ) m (mixC P Q G y C O R)) := by
  have HX : Hid (IntsIn w bo no O) := hO
  have HCx : Hid (BoxsIn w bi m C) := hC
  have HRx : Hid (RhoIn w bρ nρ R) := hR
  have HZ := lain1 w (gc P Q G H a n cap) 25
  have HG0 := fun w' ho => (HZ.then (W' := w') ho).row 0 (by simp)
  have HW0 : Hid (Old w (w.alloc (.cells (gc P Q G H a n cap) 25))) := HZ.old
  have HOr : Hid (∀ wx, Old w wx → Calls Tryz.prog 50 #[.slice bo no co] wx (Ret wx (.bool (ordB no O)))) := fun wx ho => sorder_any bo no co O wx (by omega) (hO.old ho)
  have HBa : Hid (∀ wx, Old w wx → Calls Tryz.prog 51 #[gv P Q G H a n cap, .slice bi m ci] wx (Ret wx (.bool (batB P Q m C)))) := fun wx ho => sbatch_any P Q G H a n cap bi m ci C wx h4 (by omega) (hC.old ho)
  have HIn : Hid (∀ wx, Calls Tryz.prog 52 #[gv P Q G H a n cap, .int .u64 y] wx (Ret wx (.bool (inI P Q y)))) := fun wx => gin0 P Q G H y a n cap wx h4.q0 h4.q1 hy.2
  have hcases : no ≠ m ∨ (no = m ∧ nρ ≠ m) ∨ (no = m ∧ nρ = m ∧ ordB no O = false) ∨ (no = m ∧ nρ = m ∧ ordB no O = true ∧ batB P Q m C = false) ∨ (no = m ∧ nρ = m ∧ ordB no O = true ∧ batB P Q m C = true ∧ inI P Q y = false) ∨ (no = m ∧ nρ = m ∧ ordB no O = true ∧ batB P Q m C = true ∧ inI P Q y = true) := by
    by_cases h1 : no = m
    · by_cases h2 : nρ = m
      · cases h3 : ordB no O
        · exact Or.inr (Or.inr (Or.inl ⟨h1, h2, rfl⟩))
        · cases h5 : batB P Q m C
          · exact Or.inr (Or.inr (Or.inr (Or.inl ⟨h1, h2, rfl, rfl⟩)))
          · cases h6 : inI P Q y
            · exact Or.inr (Or.inr (Or.inr (Or.inr (Or.inl ⟨h1, h2, rfl, rfl, rfl⟩))))
            · exact Or.inr (Or.inr (Or.inr (Or.inr (Or.inr ⟨h1, h2, rfl, rfl, rfl⟩))))
      · exact Or.inr (Or.inl ⟨h1, h2⟩)
    · exact Or.inl h1
  rcases hcases with h1 | ⟨h1, h2⟩ | ⟨h1, h2, h3⟩ | ⟨h1, h2, h3, h5⟩ | ⟨h1, h2, h3, h5, h6⟩ | ⟨h1, h2, h3, h5, h6⟩
  · have k1 : ((no : Int) != (m : Int)) = true := by simp; omega
    have k2 : ¬ (no : Int) = (m : Int) := by omega
    have HN : Hid (mixB P Q y m C no O nρ = false) := by unfold Hid mixB; simp [h1]
    clear hC hO hR h4 hr
    go_enter Tryz.func15, Tryz.ntmps15
    go_upto_region 1 with fail
    generalize w.alloc (.cells (gc P Q G H a n cap) 25) = W at *
    have HG : Hid (∀ wx, Old W wx → wx.heap[w.heap.size]? = some (.cells (gc P Q G H a n cap) 25 (0, 0))) := HG0
    go_wp2_with (first
      | (go_at_call 50; refine (HOr.out _ HW0.out).mono ?_; rintro e w1 ⟨rfl, o1⟩; have g1 := HG.out _ o1; have d0 := cell_of_row _ _ 0 _ _ (0, 0) g1; have d1 := cell_of_row _ _ 1 _ _ (0, 0) g1; have d2 := cell_of_row _ _ 2 _ _ (0, 0) g1; have d3 := cell_of_row _ _ 3 _ _ (0, 0) g1; have d4 := cell_of_row _ _ 4 _ _ (0, 0) g1; clear g1)
      | (go_at_call 51; refine (HBa.out _ (HW0.out.trans o1)).mono ?_; rintro e w2 ⟨rfl, o2⟩; have g2 := HG.out _ (o1.trans o2); have d5 := cell_of_row _ _ 0 _ _ (0, 0) g2; have d6 := cell_of_row _ _ 1 _ _ (0, 0) g2; have d7 := cell_of_row _ _ 2 _ _ (0, 0) g2; have d8 := cell_of_row _ _ 3 _ _ (0, 0) g2; have d9 := cell_of_row _ _ 4 _ _ (0, 0) g2; clear g2)
      | (go_at_call 52; refine (HIn.out _).mono ?_; rintro e w3 ⟨rfl, o3⟩))
    go_ret2
    exact givB_no HN.out HW0.out
  · have k0 : ((no : Int) != (m : Int)) = false := by simp; omega
    have k1 : ((nρ : Int) != (m : Int)) = true := by simp; omega
    have k2 : ¬ (nρ : Int) = (m : Int) := by omega
    have HN : Hid (mixB P Q y m C no O nρ = false) := by unfold Hid mixB; simp [h2]
    clear hC hO hR h4 hr
    go_enter Tryz.func15, Tryz.ntmps15
    go_upto_region 1 with fail
    generalize w.alloc (.cells (gc P Q G H a n cap) 25) = W at *
    have HG : Hid (∀ wx, Old W wx → wx.heap[w.heap.size]? = some (.cells (gc P Q G H a n cap) 25 (0, 0))) := HG0
    go_wp2_with (first
      | (go_at_call 50; refine (HOr.out _ HW0.out).mono ?_; rintro e w1 ⟨rfl, o1⟩; have g1 := HG.out _ o1; have d0 := cell_of_row _ _ 0 _ _ (0, 0) g1; have d1 := cell_of_row _ _ 1 _ _ (0, 0) g1; have d2 := cell_of_row _ _ 2 _ _ (0, 0) g1; have d3 := cell_of_row _ _ 3 _ _ (0, 0) g1; have d4 := cell_of_row _ _ 4 _ _ (0, 0) g1; clear g1)
      | (go_at_call 51; refine (HBa.out _ (HW0.out.trans o1)).mono ?_; rintro e w2 ⟨rfl, o2⟩; have g2 := HG.out _ (o1.trans o2); have d5 := cell_of_row _ _ 0 _ _ (0, 0) g2; have d6 := cell_of_row _ _ 1 _ _ (0, 0) g2; have d7 := cell_of_row _ _ 2 _ _ (0, 0) g2; have d8 := cell_of_row _ _ 3 _ _ (0, 0) g2; have d9 := cell_of_row _ _ 4 _ _ (0, 0) g2; clear g2)
      | (go_at_call 52; refine (HIn.out _).mono ?_; rintro e w3 ⟨rfl, o3⟩))
    go_ret2
    exact givB_no HN.out HW0.out
  · subst h2
    subst h1
    rw [h3] at HOr
    have HN : Hid (mixB P Q y no C no O no = false) := by unfold Hid mixB; simp [h3]
    clear hC hO hR h4 hr h3
    go_enter Tryz.func15, Tryz.ntmps15
    go_upto_region 1 with fail
    generalize w.alloc (.cells (gc P Q G H a n cap) 25) = W at *
    have HG : Hid (∀ wx, Old W wx → wx.heap[w.heap.size]? = some (.cells (gc P Q G H a n cap) 25 (0, 0))) := HG0
    go_wp2_with (first
      | (go_at_call 50; refine (HOr.out _ HW0.out).mono ?_; rintro e w1 ⟨rfl, o1⟩; have g1 := HG.out _ o1; have d0 := cell_of_row _ _ 0 _ _ (0, 0) g1; have d1 := cell_of_row _ _ 1 _ _ (0, 0) g1; have d2 := cell_of_row _ _ 2 _ _ (0, 0) g1; have d3 := cell_of_row _ _ 3 _ _ (0, 0) g1; have d4 := cell_of_row _ _ 4 _ _ (0, 0) g1; clear g1)
      | (go_at_call 51; refine (HBa.out _ (HW0.out.trans o1)).mono ?_; rintro e w2 ⟨rfl, o2⟩; have g2 := HG.out _ (o1.trans o2); have d5 := cell_of_row _ _ 0 _ _ (0, 0) g2; have d6 := cell_of_row _ _ 1 _ _ (0, 0) g2; have d7 := cell_of_row _ _ 2 _ _ (0, 0) g2; have d8 := cell_of_row _ _ 3 _ _ (0, 0) g2; have d9 := cell_of_row _ _ 4 _ _ (0, 0) g2; clear g2)
      | (go_at_call 52; refine (HIn.out _).mono ?_; rintro e w3 ⟨rfl, o3⟩))
    go_ret2
    exact givB_no HN.out (HW0.out.trans o1)
  · subst h2
    subst h1
    rw [h3] at HOr
    rw [h5] at HBa
    have HN : Hid (mixB P Q y no C no O no = false) := by unfold Hid mixB; simp [h5]
    clear hC hO hR h4 hr h3 h5
    go_enter Tryz.func15, Tryz.ntmps15
    go_upto_region 1 with fail
    generalize w.alloc (.cells (gc P Q G H a n cap) 25) = W at *
    have HG : Hid (∀ wx, Old W wx → wx.heap[w.heap.size]? = some (.cells (gc P Q G H a n cap) 25 (0, 0))) := HG0
    go_wp2_with (first
      | (go_at_call 50; refine (HOr.out _ HW0.out).mono ?_; rintro e w1 ⟨rfl, o1⟩; have g1 := HG.out _ o1; have d0 := cell_of_row _ _ 0 _ _ (0, 0) g1; have d1 := cell_of_row _ _ 1 _ _ (0, 0) g1; have d2 := cell_of_row _ _ 2 _ _ (0, 0) g1; have d3 := cell_of_row _ _ 3 _ _ (0, 0) g1; have d4 := cell_of_row _ _ 4 _ _ (0, 0) g1; clear g1)
      | (go_at_call 51; refine (HBa.out _ (HW0.out.trans o1)).mono ?_; rintro e w2 ⟨rfl, o2⟩; have g2 := HG.out _ (o1.trans o2); have d5 := cell_of_row _ _ 0 _ _ (0, 0) g2; have d6 := cell_of_row _ _ 1 _ _ (0, 0) g2; have d7 := cell_of_row _ _ 2 _ _ (0, 0) g2; have d8 := cell_of_row _ _ 3 _ _ (0, 0) g2; have d9 := cell_of_row _ _ 4 _ _ (0, 0) g2; clear g2)
      | (go_at_call 52; refine (HIn.out _).mono ?_; rintro e w3 ⟨rfl, o3⟩))
    go_ret2
    exact givB_no HN.out ((HW0.out.trans o1).trans o2)
  · subst h2
    subst h1
    rw [h3] at HOr
    rw [h5] at HBa
    rw [h6] at HIn
    have HN : Hid (mixB P Q y no C no O no = false) := by unfold Hid mixB; simp [h6]
    clear hC hO hR h4 hr h3 h5 h6
    go_enter Tryz.func15, Tryz.ntmps15
    go_upto_region 1 with fail
    generalize w.alloc (.cells (gc P Q G H a n cap) 25) = W at *
    have HG : Hid (∀ wx, Old W wx → wx.heap[w.heap.size]? = some (.cells (gc P Q G H a n cap) 25 (0, 0))) := HG0
    go_wp2_with (first
      | (go_at_call 50; refine (HOr.out _ HW0.out).mono ?_; rintro e w1 ⟨rfl, o1⟩; have g1 := HG.out _ o1; have d0 := cell_of_row _ _ 0 _ _ (0, 0) g1; have d1 := cell_of_row _ _ 1 _ _ (0, 0) g1; have d2 := cell_of_row _ _ 2 _ _ (0, 0) g1; have d3 := cell_of_row _ _ 3 _ _ (0, 0) g1; have d4 := cell_of_row _ _ 4 _ _ (0, 0) g1; clear g1)
      | (go_at_call 51; refine (HBa.out _ (HW0.out.trans o1)).mono ?_; rintro e w2 ⟨rfl, o2⟩; have g2 := HG.out _ (o1.trans o2); have d5 := cell_of_row _ _ 0 _ _ (0, 0) g2; have d6 := cell_of_row _ _ 1 _ _ (0, 0) g2; have d7 := cell_of_row _ _ 2 _ _ (0, 0) g2; have d8 := cell_of_row _ _ 3 _ _ (0, 0) g2; have d9 := cell_of_row _ _ 4 _ _ (0, 0) g2; clear g2)
      | (go_at_call 52; refine (HIn.out _).mono ?_; rintro e w3 ⟨rfl, o3⟩))
    go_ret2
    exact givB_no HN.out (((HW0.out.trans o1).trans o2).trans o3)
  · subst h2
    subst h1
    rw [h3] at HOr
    rw [h5] at HBa
    rw [h6] at HIn
    have HOk : mixB P Q y no C no O no = true := by unfold mixB; simp [h3, h5, h6]
    rw [HOk]
    have HPo : Hid (OrdP no O) := ordB_iff.1 h3
    have HBi : Hid (∀ j, j < no → ∀ k, k < 6 → inI P Q (C j k) = true) := (batB_iff.1 h5).2
    have H4 : Hid (Four P Q G H) := h4
    have HRi : Hid (Righ P Q G) := hr
    have HIy : Hid (inI P Q y = true) := h6
    obtain ⟨D, hD⟩ : ∃ D : Nat → Nat → Int, D = mixC P Q G y C O R := ⟨_, rfl⟩
    have HDe : Hid (D = mixC P Q G y C O R) := hD
    rw [← hD]
    clear hD HOk hC hO hR h4 hr h3 h5 h6
    have hmk := makeb_run no mo
    have HF0 : ∀ wx : World, Hid (FulV (wx.alloc (.cells (madeCells #[Value.int .u64 0, Value.int .u64 0, Value.int .u64 0, Value.int .u64 0, Value.int .u64 0, Value.int .u64 0] (no * 6)) 74)) wx.heap.size (no * 6) 74 (bxV 0 D)) := fun wx => fulV_new6 wx (no * 6) _ (.int .u64 0) _ fun k _ => by simp [bxV, upTo]
    go_enter Tryz.func15, Tryz.ntmps15
    go_upto_region 1 with fail
    generalize w.alloc (.cells (gc P Q G H a n cap) 25) = W at *
    have HG : Hid (∀ wx, Old W wx → wx.heap[w.heap.size]? = some (.cells (gc P Q G H a n cap) 25 (0, 0))) := HG0
    clear HG0
    go_upto_region 4 with (first
      | (go_at_call 50; refine (HOr.out _ HW0.out).mono ?_; rintro e w1 ⟨rfl, o1⟩; have g1 := HG.out _ o1; have d0 := cell_of_row _ _ 0 _ _ (0, 0) g1; have d1 := cell_of_row _ _ 1 _ _ (0, 0) g1; have d2 := cell_of_row _ _ 2 _ _ (0, 0) g1; have d3 := cell_of_row _ _ 3 _ _ (0, 0) g1; have d4 := cell_of_row _ _ 4 _ _ (0, 0) g1; clear g1)
      | (go_at_call 51; refine (HBa.out _ (HW0.out.trans o1)).mono ?_; rintro e w2 ⟨rfl, o2⟩; have g2 := HG.out _ (o1.trans o2); have d5 := cell_of_row _ _ 0 _ _ (0, 0) g2; have d6 := cell_of_row _ _ 1 _ _ (0, 0) g2; have d7 := cell_of_row _ _ 2 _ _ (0, 0) g2; have d8 := cell_of_row _ _ 3 _ _ (0, 0) g2; have d9 := cell_of_row _ _ 4 _ _ (0, 0) g2; clear g2)
      | (go_at_call 52; refine (HIn.out _).mono ?_; rintro e w3 ⟨rfl, o3⟩))
    have HW3 : Hid (Old W w3) := (o1.trans o2).trans o3
    clear o1 o2 o3 d0 d1 d2 d3 d4 d5 d6 d7 d8 d9
    go_upto_region 5 with fail
    have HF1 := HF0 w3
    have HW4 : Hid (Old W (w3.alloc (.cells (madeCells #[Value.int .u64 0, Value.int .u64 0, Value.int .u64 0, Value.int .u64 0, Value.int .u64 0, Value.int .u64 0] (no * 6)) 74))) := HW3.out.alloc _
    have hs3 := HW3.out.size
    generalize w3.alloc (.cells (madeCells #[Value.int .u64 0, Value.int .u64 0, Value.int .u64 0, Value.int .u64 0, Value.int .u64 0, Value.int .u64 0] (no * 6)) 74) = W4 at *
    generalize w3.heap.size = bl at *
    clear HF0 hmk
    go_upto_region 6 with fail
    go_loopw [51] (fun iv wx => ∃ i : Nat, iv = .int .i64 (i : Int) ∧ i ≤ no ∧ Hid (FulV wx bl (no * 6) 74 (bxV (i * 6) D)) ∧ Hid (Old W wx)) (fun iv _ => no - (intOf iv).toNat)
    case atStart => exact ⟨0, rfl, Nat.zero_le _, by rw [Nat.zero_mul]; exact HF1, HW4⟩
    case round =>
      obtain ⟨i, rfl, hi, HN, HO⟩ := hrel
      by_cases hlt : i < no
      · rcases HX.out with h0 | ⟨bx, ox, hqx, _, hrx⟩
        · omega
        have cx := (HW0.out.trans HO.out).cellOf (hrx i hlt).1
        have hp := HPo.out.2.1 i hlt
        obtain ⟨p, hpe⟩ : ∃ p : Nat, O i = (p : Int) := ⟨(O i).toNat, by omega⟩
        have HPe : Hid ((O i).toNat = p) := by unfold Hid; omega
        rw [hpe] at cx hp
        have hpn : p < no := by omega
        clear hpe hp hrx
        subst hqx
        rcases HCx.out with h0 | ⟨bc, oc, hqc, _, hrc⟩
        · omega
        have hcc : ∀ k, k < 6 → wr.cell? ⟨bc, oc + p * 6 + k, none⟩ = some (.int .u64 (C p k)) ∧ U64 (C p k) := fun k hk => ⟨(HW0.out.trans HO.out).cellOf (hrc p hpn k hk).1, (hrc p hpn k hk).2⟩
        have c0 : wr.cell? ⟨bc, oc + p * 6, none⟩ = some (.int .u64 (C p 0)) := (hcc 0 (by omega)).1
        have c1 := (hcc 1 (by omega)).1
        have c2 := (hcc 2 (by omega)).1
        have c3 := (hcc 3 (by omega)).1
        have c4 := (hcc 4 (by omega)).1
        have c5 := (hcc 5 (by omega)).1
        have HCu : Hid (∀ k, k < 6 → U64 (C p k)) := fun k hk => (hcc k hk).2
        have HCb : Hid (FulV wr bl (no * 6) 74 (bxV (i * 6) D)) := HN
        clear hrc hcc
        subst hqc
        go_upto_region 9 with fail
        clear c0 c1 c2 c3 c4 c5 cx
        go_loopw [60] (fun iv wx => ∃ k : Nat, iv = .int .i64 (k : Int) ∧ k ≤ 3 ∧ Hid (FulV wx bl (no * 6) 74 (bxV (i * 6 + k * 2) D)) ∧ Hid (Old W wx)) (fun iv _ => 3 - (intOf iv).toNat)
        case atStart => exact ⟨0, rfl, Nat.zero_le _, by rw [Nat.zero_mul]; exact HCb, HO⟩
        case round =>
          obtain ⟨k, rfl, hk, HN2, HO2⟩ := hrel
          by_cases hkl : k < 3
          · have k1 : (k : Int) < 3 := by omega
            have hbx := box_at (C p 0) (C p 1) (C p 2) (C p 3) (C p 4) (C p 5) k hkl
            have hU : tri7 (C p 0) (C p 2) (C p 4) k = C p (2 * k) ∧ tri7 (C p 1) (C p 3) (C p 5) k = C p (2 * k + 1) := by
              match k, hkl with
              | 0, _ => exact ⟨rfl, rfl⟩
              | 1, _ => exact ⟨rfl, rfl⟩
              | 2, _ => exact ⟨rfl, rfl⟩
            rw [hU.1, hU.2] at hbx
            have HUu : Hid (U64 (C p (2 * k))) := HCu.out _ (by omega)
            have HVu : Hid (U64 (C p (2 * k + 1))) := HCu.out _ (by omega)
            have HDu : Hid (D i (2 * k) = mulI (C p (2 * k)) (expI P Q G (R i k)) P) := by
              unfold Hid; rw [HDe.out]; unfold mixC; rw [if_pos (by omega), HPe.out, show 2 * k / 2 = k by omega]
            have HDv : Hid (D i (2 * k + 1) = mulI (C p (2 * k + 1)) (expI P Q y (R i k)) P) := by
              unfold Hid; rw [HDe.out]; unfold mixC; rw [if_neg (by omega), HPe.out, show (2 * k + 1) / 2 = k by omega]
            rcases HRx.out with h0 | ⟨by_, oy, hqy, _, hry⟩
            · omega
            have HRu : Hid (U64 (R i k)) := (hry i hlt k hkl).2
            have HRc0 : Hid (∀ wx, Old wr wx → wx.cell? ⟨by_, oy + i * 3 + k, none⟩ = some (.int .u64 (R i k))) := fun wx hx => ((HW0.out.trans HO2.out).trans hx).cellOf (hry i hlt k hkl).1
            clear hry
            subst hqy
            clear hU
            generalize C p (2 * k) = xu at *
            generalize C p (2 * k + 1) = xv at *
            have HWp : Hid (Old wr (wr.alloc (.cells #[.int .u64 xu, .int .u64 xv] 69))) := (Old.refl _).alloc _
            have HPr0 : (wr.alloc (.cells #[.int .u64 xu, .int .u64 xv] 69)).heap[wr.heap.size]? = some (.cells #[.int .u64 xu, .int .u64 xv] 69 (0, 0)) := heap_alloc_last _ _
            go_upto_region 11 with fail
            generalize wr.heap.size = sp at *
            generalize wr.alloc (.cells #[.int .u64 xu, .int .u64 xv] 69) = Wp at *
            have HPr : Hid (∀ wx, Old Wp wx → wx.heap[sp]? = some (.cells #[.int .u64 xu, .int .u64 xv] 69 (0, 0))) := fun wx hx => (hx.block _ (Array.getElem?_eq_some_iff.1 HPr0).1).trans HPr0
            have HRc : Hid (∀ wx, Old Wp wx → wx.cell? ⟨by_, oy + i * 3 + k, none⟩ = some (.int .u64 (R i k))) := fun wx hx => HRc0.out _ (HWp.out.trans hx)
            have HGr : Hid (∀ wx, Old Wp wx → wx.heap[w.heap.size]? = some (.cells (gc P Q G H a n cap) 25 (0, 0))) := fun wx hx => HG.out _ ((HO2.out.trans HWp.out).trans hx)
            clear HPr0 HRc0 hbx
            refine wp_region_tab 15 [.k (.slice (some ⟨bl, 0, none⟩) no no), .k (.int .i64 (i : Int)), .k (.int .i64 (k : Int)), .k (gv P Q G H a n cap), .k (.int .u64 y), .k (pv xu xv), .k (.slice (some ⟨by_, oy, none⟩) no cρ), .k (.int .i64 (i : Int)), .k (.int .i64 (k : Int)), .k (.pointer (some ⟨by_, oy + i * 3, none⟩)), .k (.pointer (some ⟨by_, oy + i * 3 + k, none⟩)), .k (.int .u64 (R i k)), .k (pv (D i (2 * k)) (D i (2 * k + 1))), .k (.pointer (some ⟨bl, i * 6, none⟩)), .k (.pointer (some ⟨bl, i * 6 + k * 2, none⟩))] (Old Wp) (by kernel_rfl) (by kernel_rfl) rfl ((Old.refl _).drew) ?st ?_
            case st =>
              refine .c stp <|
                .c stp <|
                .c stp <|
                .c (sts Tryz.underlying25 HGr.out) <|
                .c stp <|
                .c (sts Tryz.underlying69 HPr.out) <|
                .c stp <|
                .c stp <|
                .c stp <|
                .c (stj (n := no) (c := cρ) 3 hlt Tryz.underlying28) <|
                .c (sai hkl Tryz.underlying63) <|
                .c (stl Tryz.underlying22 HRc.out) <|
                .c (stK old_R Tryz.func53 (fun wx _ => by rw [HDu.out, HDv.out]; exact gagain_any P Q G H a n cap y xu xv (R i k) wx H4.out HRi.out hy HUu.out HVu.out HRu.out)) <|
                .c (stj0 (n := no) (c := no) 6 hlt Tryz.underlying26) <|
                .c (saj 2 hkl Tryz.underlying74) .n
            intro t wx hR hk
            simp only [fill, Ent.val, List.set_cons_zero, List.set_cons_succ, List.drop_succ_cons, List.drop_zero, List.drop_nil]
            have HNx := HN2.out.old (HWp.out.trans hR)
            have HG1 : Hid (FulV ((wx.setCell ⟨bl, i * 6 + k * 2, none⟩ (.int .u64 (D i (2 * k)))).setCell ⟨bl, i * 6 + k * 2 + 1, none⟩ (.int .u64 (D i (2 * k + 1)))) bl (no * 6) 74 (bxV (i * 6 + (k + 1) * 2) D)) := by
              have h := bxV_next HNx (x := D i (2 * k)) (z := D i (2 * k + 1)) (by rw [show i * 6 + k * 2 = 6 * i + 2 * k by omega, flat_at D i (2 * k) (by omega)]) (by rw [show i * 6 + k * 2 + 1 = 6 * i + (2 * k + 1) by omega, flat_at D i (2 * k + 1) (by omega)])
              rwa [show i * 6 + k * 2 + 2 = i * 6 + (k + 1) * 2 by omega] at h
            have HG2 : Hid (Old W ((wx.setCell ⟨bl, i * 6 + k * 2, none⟩ (.int .u64 (D i (2 * k)))).setCell ⟨bl, i * 6 + k * 2 + 1, none⟩ (.int .u64 (D i (2 * k + 1))))) := (((HO2.out.trans HWp.out).trans hR).setCell (p := ⟨bl, i * 6 + k * 2, none⟩) hs3 _).setCell (p := ⟨bl, i * 6 + k * 2 + 1, none⟩) hs3 _
            have q0 := HNx.cell (i * 6 + k * 2) (by omega)
            have q1 := HNx.cell (i * 6 + k * 2 + 1) (by omega)
            have f0 := HNx.free (i * 6 + k * 2)
            have f1 := HNx.free (i * 6 + k * 2 + 1)
            clear hR hk HNx HPr HRc HGr
            generalize D i (2 * k) = du at *
            generalize D i (2 * k + 1) = dv at *
            go_wp2_with fail
            go_roundw
            case rel => exact ⟨k + 1, idx_next k, by omega, HG1, HG2⟩
            case measure => simp [intOf]; omega
          · have hk3 : k = 3 := by omega
            subst hk3
            have HN3 : Hid (FulV wr bl (no * 6) 74 (bxV ((i + 1) * 6) D)) := by have := HN2.out; rwa [show i * 6 + 3 * 2 = (i + 1) * 6 by omega] at this
            go_wp2_with fail
            go_roundw
            case rel => exact ⟨i + 1, idx_next i, by omega, HN3, HO2⟩
            case measure => simp [intOf]; omega
      · have he : no = i := by omega
        subst he
        have HD' : Hid (BoxF wr (some ⟨bl, 0, none⟩) no D) := fulV_boxs HN.out (fun i k => by rw [HDe.out]; exact mixC_u64 _ _ _ _ _ _ _ i k)
        go_wp2_with fail
        go_ret2
        exact ⟨HW0.out.trans HO.out, _, rfl, HD'.out⟩

end Go.Proofs.YtlnmjbbpenhdbaaGreat
