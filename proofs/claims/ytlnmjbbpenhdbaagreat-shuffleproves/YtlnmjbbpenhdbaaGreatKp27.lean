/-
  What the proof needs, part 27.
-/
import Derived.Test.YtlnmjbbpenhdbaaGreatKp26
import Derived.Test.YtlnmjbbpenhdbaaGreatKp20
import Derived.Test.YtlnmjbbpenhdbaaGreatKp10
namespace Go.Proofs.YtlnmjbbpenhdbaaGreat
set_option linter.unusedSimpArgs false
set_option linter.unusedVariables false
set_option maxRecDepth 100000
set_option maxHeartbeats 32000000
section
open Go Go.RowKit
theorem cells_row8 {w : World} {b : Nat} {cs : List Value} {t : TypeId} (h : w.heap[b]? = some (.cells cs.toArray t (0, 0))) : ∀ j u, cs[j]? = some u -> w.cell? ((⟨b, 0, none⟩ : Addr).add j) = some u := fun j u hu => by
 have hadd : (⟨b, 0, none⟩ : Addr).add j = ⟨b, j, none⟩ := by unfold Addr.add; split <;> simp_all
 rw [hadd, cell_of_row _ _ j _ _ (0, 0) h]
 simpa using hu
theorem rfirst8_any (P Q G H : Int) (a : Option Addr) (n cap : Nat) (bo : Option Addr) (no co : Nat) (O : Nat -> Int) (br : Option Addr) (cr : Nat) (R : Nat -> Int) (w : World) (h4 : Four P Q G H) (ho : ordR no O = true) (hO : IntsIn w bo no O) (hR : FacsIn w br no R) :
  Calls Tryz.prog 21 #[gv P Q G H a n cap, .slice bo no co, .slice br no cr] w (GivL w no (fun i => comI P Q G H (O i + 1) (R i))) := by
 obtain ⟨i0, hi0, hz0, hz1, hz2⟩ := info_parts u64info
 have h8 : no <= 8 := (ordR_iff.1 ho).1.2
 have hP : OrdP no O := ordB_iff.1 (by have := ho; unfold ordR at this; exact (Bool.and_eq_true_iff.1 this).2)
 have HOr : Hid (∀ wx, Old w wx -> Calls Tryz.prog 56 #[.slice bo no co] wx (Ret wx (.bool true))) := fun wx hx => by have h := rorder8_any bo no co O wx (by omega) (hO.old hx); rw [ho] at h; exact h
 have HB : Hid (∀ i, i < no -> 0 <= O i /\ O i < 1000) := fun i hi => by have := hP.2.1 i hi; omega
 have HIO : Hid (IntsIn w bo no O) := hO
 have HIR : Hid (FacsIn w br no R) := hR
 have HRu : Hid (∀ i, i < no -> U64 (R i)) := hR.u64
 obtain ⟨F, hF⟩ : ∃ F : Nat -> Int, F = fun i => comI P Q G H (O i + 1) (R i) := ⟨_, rfl⟩
 have HFi : Hid (∀ i, F i = comI P Q G H (O i + 1) (R i)) := fun i => by rw [hF]
 rw [<- hF]
 clear hF ho hO hR hP
 have HZ := lain1 w (gc P Q G H a n cap) 25
 have HG0 := fun w' ho => (HZ.then (W' := w') ho).row 0 (by simp)
 have HW0 : Hid (Old w (w.alloc (.cells (gc P Q G H a n cap) 25))) := HZ.old
 clear HZ
 go_enter Tryz.func21, Tryz.ntmps21
 go_upto_region 1 with fail
 generalize w.alloc (.cells (gc P Q G H a n cap) 25) = W at *
 have HG : Hid (∀ wx, Old W wx -> wx.heap[w.heap.size]? = some (.cells (gc P Q G H a n cap) 25 (0, 0))) := HG0
 clear HG0
 obtain ⟨gb, hgb⟩ : ∃ gb, gb = w.heap.size := ⟨_, rfl⟩
 rw [<- hgb] at HG
 rw [<- hgb]
 clear hgb
 go_upto_region 5 with (go_at_call 56; refine (HOr.out _ HW0.out).mono ?_; rintro e w1 ⟨rfl, o1⟩)
 have HO1 : Hid (Old W w1) := o1
 clear o1 HOr
 go_loopw [7, 8] (fun v iv wx => ∃ i : Nat, iv = .int .i64 (i : Int) /\ i <= no /\ Hid (Nums wx W.heap.size v i F) /\ Hid (Old W wx)) (fun _ iv _ => no - (intOf iv).toNat)
 case atStart => exact ⟨0, rfl, Nat.zero_le _, nums_nil _ _ _, HO1⟩
 case round =>
  obtain ⟨i, rfl, hi, HN, HO⟩ := hrel
  by_cases hlt : i < no
  · rcases HIO.out with h0 | ⟨bx, ox, hqx, _, hrx⟩
   · omega
   rcases HIR.out with h0 | ⟨by_, oy, hqy, _, hry⟩
   · omega
   have HC : Hid (∀ wx, Old wr wx -> wx.cell? ⟨bx, ox + i, none⟩ = some (.int .i64 (O i))) := fun wx hx => ((HW0.out.trans HO.out).trans hx).cellOf (hrx i hlt).1
   have HD : Hid (∀ wx, Old wr wx -> wx.cell? ⟨by_, oy + i, none⟩ = some (.int .u64 (R i))) := fun wx hx => ((HW0.out.trans HO.out).trans hx).cellOf (hry i hlt).1
   have HGr : Hid (∀ wx, Old wr wx -> wx.heap[gb]? = some (.cells (gc P Q G H a n cap) 25 (0, 0))) := fun wx hx => HG.out _ (HO.out.trans hx)
   clear hrx hry
   subst hqx
   subst hqy
   have HJ : Hid (0 <= O i + 1 /\ O i + 1 <= 1000) := by have := HB.out i hlt; unfold Hid; omega
   have HJu : Hid (U64 (O i + 1)) := by have := HB.out i hlt; exact ⟨by omega, by omega⟩
   have HRi : Hid (U64 (R i)) := HRu.out i hlt
   have HVi : Hid (Value.int .i64 (IntKind.i64.wrap (O i + 1)) = .int .i64 (O i + 1)) := by unfold Hid; rw [wrapi _ HJ.out]
   have HVu : Hid (Value.int .u64 (IntKind.u64.wrap (O i + 1)) = .int .u64 (O i + 1)) := by unfold Hid; rw [wrapu _ HJ.out]
   have HCo : Hid (∀ wx, Calls Tryz.prog 60 #[gv P Q G H a n cap, .int .u64 (O i + 1), .int .u64 (R i)] wx (Ret wx (.int .u64 (F i)))) := fun wx => by rw [HFi.out]; exact rcommit8_any P Q G H a n cap _ _ wx h4 HJu.out HRi.out
   go_upto_region 7 with fail
   refine wp_region_tab 14 [.k (u7), .k (gv P Q G H a n cap), .k (.slice (some ⟨bx, ox, none⟩) no co), .k (.int .i64 (i : Int)), .k (.pointer (some ⟨bx, ox + i, none⟩)), .k (.int .i64 (O i)), .k (.int .i64 (O i + 1)), .k (.int .u64 (O i + 1)), .k (.slice (some ⟨by_, oy, none⟩) no cr), .k (.int .i64 (i : Int)), .k (.pointer (some ⟨by_, oy + i, none⟩)), .k (.int .u64 (R i)), .k (.int .u64 (F i)), blkE 1 #[.int .u64 (F i)] 22] (Old wr) (by kernel_rfl) (by kernel_rfl) rfl ((Old.refl _).drew) ?st ?_
   case st =>
    refine .c stp <| .c (sts Tryz.underlying25 HGr.out) <| .c stp <| .c stp <| .c (sti (n := no) (c := co) hlt Tryz.underlying27) <| .c (stl Tryz.underlying3 HC.out) <| .c (stv HVi.out) <| .c (stv HVu.out) <| .c stp <| .c stp <| .c (sti (n := no) (c := cr) hlt Tryz.underlying29) <| .c (stl Tryz.underlying22 HD.out) <| .c (stK old_R Tryz.func60 (fun wx _ => HCo.out wx)) <| .c (stm (ob := fun t => .cells #[.int .u64 (F i)] 22) (v := fun s => .slice (some ⟨s, 0, none⟩) 1 1) old_R fun t wx hR hd => ⟨_, rfl, heap_alloc_last _ _⟩) .n
   intro t wz hR2 hk2
   simp only [fill, Ent.val, blkE, List.set_cons_zero, List.set_cons_succ, List.drop_succ_cons, List.drop_zero, List.drop_nil]
   obtain ⟨bs, ebs, hbs⟩ : ∃ b, t 13 = .slice (some ⟨b, 0, none⟩) 1 1 /\ wz.heap[b]? = some (.cells #[.int .u64 (F i)] 22 (0, 0)) := hk2 13 (by omega)
   rw [ebs]
   have HNz : Hid (Nums wz W.heap.size u7 i F) := HN.out.old hR2
   have HOz : Hid (Old W wz) := HO.out.trans hR2
   have HSz : Hid (W.heap.size <= wz.heap.size) := HOz.out.size
   clear hk2 hR2 HN HO HC HD HGr HCo HVi HVu
   go_wp2_with (at_builtin; refine wpList_append_lies _ rfl _ _ 29 rfl W.heap.size 22 i0 (.int .u64 0) 1 8 Tryz.underlying29 hi0 hz0 hz1 hz2 rfl (by decide) _ _ _ rfl HNz.out ⟨bs, 0, none⟩ 1 1 [.int .u64 (F i)] rfl rfl ?c1 ?c2 (by decide) ?c3 ?c4 HSz.out _ rfl ?_)
   case c1 => exact cells_row8 hbs
   case c2 => intro u hu; simp at hu; rcases hu with rfl; rfl
   case c3 => unfold maxLen; omega
   case c4 => omega
   intro g9 cap9 w9 hown9 hgrow9 hat9 _
   have HN9 : Hid (Nums w9 W.heap.size (.slice (some ⟨g9, 0, none⟩) (i + 1) cap9) (i + 1) F) := Nums.app hown9 rfl
   have HO9 : Hid (Old W w9) := HOz.out.grown hgrow9 fun q hq => (World.ownsRow.lt HNz.out q hq).1
   clear hown9 hgrow9 hat9 HNz HOz hbs ebs HSz
   go_wp2
   go_roundw
   case rel => exact ⟨i + 1, idx_next i, by omega, HN9, HO9⟩
   case measure => simp [intOf]; omega
  · have he : no = i := by omega
   subst he
   go_wp2_with fail
   go_ret
   exact ⟨HW0.out.trans HO.out, _, rfl, HN.out.mono HW0.out.size⟩
theorem rsecond8_any (P Q G H : Int) (a : Option Addr) (n cap : Nat) (bo : Option Addr) (no co : Nat) (O : Nat -> Int) (X : Int) (br : Option Addr) (cr : Nat) (R : Nat -> Int) (w : World) (h4 : Four P Q G H) (hXu : U64 X) (ho : ordR no O = true) (hO : IntsIn w bo no O) (hR : FacsIn w br no R) :
  Calls Tryz.prog 23 #[gv P Q G H a n cap, .slice bo no co, .int .u64 X, .slice br no cr] w (GivL w no (fun i => comI P Q G H (powI X (O i + 1) Q) (R i))) := by
 obtain ⟨i0, hi0, hz0, hz1, hz2⟩ := info_parts u64info
 have h8 : no <= 8 := (ordR_iff.1 ho).1.2
 have hP : OrdP no O := ordB_iff.1 (by have := ho; unfold ordR at this; exact (Bool.and_eq_true_iff.1 this).2)
 have HOr : Hid (∀ wx, Old w wx -> Calls Tryz.prog 56 #[.slice bo no co] wx (Ret wx (.bool true))) := fun wx hx => by have h := rorder8_any bo no co O wx (by omega) (hO.old hx); rw [ho] at h; exact h
 have HB : Hid (∀ i, i < no -> 0 <= O i /\ O i < 1000) := fun i hi => by have := hP.2.1 i hi; omega
 have HIO : Hid (IntsIn w bo no O) := hO
 have HIR : Hid (FacsIn w br no R) := hR
 have HRu : Hid (∀ i, i < no -> U64 (R i)) := hR.u64
 obtain ⟨F, hF⟩ : ∃ F : Nat -> Int, F = fun i => comI P Q G H (powI X (O i + 1) Q) (R i) := ⟨_, rfl⟩
 have HFi : Hid (∀ i, F i = comI P Q G H (powI X (O i + 1) Q) (R i)) := fun i => by rw [hF]
 rw [<- hF]
 clear hF ho hO hR hP
 have HZ := lain1 w (gc P Q G H a n cap) 25
 have HG0 := fun w' ho => (HZ.then (W' := w') ho).row 0 (by simp)
 have HW0 : Hid (Old w (w.alloc (.cells (gc P Q G H a n cap) 25))) := HZ.old
 clear HZ
 go_enter Tryz.func23, Tryz.ntmps23
 go_upto_region 1 with fail
 generalize w.alloc (.cells (gc P Q G H a n cap) 25) = W at *
 have HG : Hid (∀ wx, Old W wx -> wx.heap[w.heap.size]? = some (.cells (gc P Q G H a n cap) 25 (0, 0))) := HG0
 clear HG0
 obtain ⟨gb, hgb⟩ : ∃ gb, gb = w.heap.size := ⟨_, rfl⟩
 rw [<- hgb] at HG
 rw [<- hgb]
 clear hgb
 go_upto_region 5 with (go_at_call 56; refine (HOr.out _ HW0.out).mono ?_; rintro e w1 ⟨rfl, o1⟩)
 have HO1 : Hid (Old W w1) := o1
 clear o1 HOr
 go_loopw [9, 10] (fun v iv wx => ∃ i : Nat, iv = .int .i64 (i : Int) /\ i <= no /\ Hid (Nums wx W.heap.size v i F) /\ Hid (Old W wx)) (fun _ iv _ => no - (intOf iv).toNat)
 case atStart => exact ⟨0, rfl, Nat.zero_le _, nums_nil _ _ _, HO1⟩
 case round =>
  obtain ⟨i, rfl, hi, HN, HO⟩ := hrel
  by_cases hlt : i < no
  · rcases HIO.out with h0 | ⟨bx, ox, hqx, _, hrx⟩
   · omega
   rcases HIR.out with h0 | ⟨by_, oy, hqy, _, hry⟩
   · omega
   have HC : Hid (∀ wx, Old wr wx -> wx.cell? ⟨bx, ox + i, none⟩ = some (.int .i64 (O i))) := fun wx hx => ((HW0.out.trans HO.out).trans hx).cellOf (hrx i hlt).1
   have HD : Hid (∀ wx, Old wr wx -> wx.cell? ⟨by_, oy + i, none⟩ = some (.int .u64 (R i))) := fun wx hx => ((HW0.out.trans HO.out).trans hx).cellOf (hry i hlt).1
   have HGr : Hid (∀ wx, Old wr wx -> wx.heap[gb]? = some (.cells (gc P Q G H a n cap) 25 (0, 0))) := fun wx hx => HG.out _ (HO.out.trans hx)
   clear hrx hry
   subst hqx
   subst hqy
   have HJ : Hid (0 <= O i + 1 /\ O i + 1 <= 1000) := by have := HB.out i hlt; unfold Hid; omega
   have HJu : Hid (U64 (O i + 1)) := by have := HB.out i hlt; exact ⟨by omega, by omega⟩
   have HRi : Hid (U64 (R i)) := HRu.out i hlt
   have HVi : Hid (Value.int .i64 (IntKind.i64.wrap (O i + 1)) = .int .i64 (O i + 1)) := by unfold Hid; rw [wrapi _ HJ.out]
   have HVu : Hid (Value.int .u64 (IntKind.u64.wrap (O i + 1)) = .int .u64 (O i + 1)) := by unfold Hid; rw [wrapu _ HJ.out]
   have HCo : Hid (∀ wx, Calls Tryz.prog 60 #[gv P Q G H a n cap, .int .u64 (powI X (O i + 1) Q), .int .u64 (R i)] wx (Ret wx (.int .u64 (F i)))) := fun wx => by rw [HFi.out]; exact rcommit8_any P Q G H a n cap _ _ wx h4 (u64_pow _ _ _) HRi.out
   go_upto_region 7 with fail
   refine wp_region_tab 16 [.k (u9), .k (gv P Q G H a n cap), .k (gv P Q G H a n cap), .k (.int .u64 X), .k (.slice (some ⟨bx, ox, none⟩) no co), .k (.int .i64 (i : Int)), .k (.pointer (some ⟨bx, ox + i, none⟩)), .k (.int .i64 (O i)), .k (.int .i64 (O i + 1)), .k (.int .u64 (powI X (O i + 1) Q)), .k (.slice (some ⟨by_, oy, none⟩) no cr), .k (.int .i64 (i : Int)), .k (.pointer (some ⟨by_, oy + i, none⟩)), .k (.int .u64 (R i)), .k (.int .u64 (F i)), blkE 1 #[.int .u64 (F i)] 22] (Old wr) (by kernel_rfl) (by kernel_rfl) rfl ((Old.refl _).drew) ?st ?_
   case st =>
    refine .c stp <| .c (sts Tryz.underlying25 HGr.out) <| .c (sts Tryz.underlying25 HGr.out) <| .c stp <| .c stp <| .c stp <| .c (sti (n := no) (c := co) hlt Tryz.underlying27) <| .c (stl Tryz.underlying3 HC.out) <| .c (stv HVi.out) <| .c (stK old_R Tryz.func62 (fun wx _ => rpower8_any P Q G H a n cap X _ wx hXu HJ.out)) <| .c stp <| .c stp <| .c (sti (n := no) (c := cr) hlt Tryz.underlying29) <| .c (stl Tryz.underlying22 HD.out) <| .c (stK old_R Tryz.func60 (fun wx _ => HCo.out wx)) <| .c (stm (ob := fun t => .cells #[.int .u64 (F i)] 22) (v := fun s => .slice (some ⟨s, 0, none⟩) 1 1) old_R fun t wx hR hd => ⟨_, rfl, heap_alloc_last _ _⟩) .n
   intro t wz hR2 hk2
   simp only [fill, Ent.val, blkE, List.set_cons_zero, List.set_cons_succ, List.drop_succ_cons, List.drop_zero, List.drop_nil]
   obtain ⟨bs, ebs, hbs⟩ : ∃ b, t 15 = .slice (some ⟨b, 0, none⟩) 1 1 /\ wz.heap[b]? = some (.cells #[.int .u64 (F i)] 22 (0, 0)) := hk2 15 (by omega)
   rw [ebs]
   have HNz : Hid (Nums wz W.heap.size u9 i F) := HN.out.old hR2
   have HOz : Hid (Old W wz) := HO.out.trans hR2
   have HSz : Hid (W.heap.size <= wz.heap.size) := HOz.out.size
   clear hk2 hR2 HN HO HC HD HGr HCo HVi HVu
   go_wp2_with (at_builtin; refine wpList_append_lies _ rfl _ _ 29 rfl W.heap.size 22 i0 (.int .u64 0) 1 8 Tryz.underlying29 hi0 hz0 hz1 hz2 rfl (by decide) _ _ _ rfl HNz.out ⟨bs, 0, none⟩ 1 1 [.int .u64 (F i)] rfl rfl ?c1 ?c2 (by decide) ?c3 ?c4 HSz.out _ rfl ?_)
   case c1 => exact cells_row8 hbs
   case c2 => intro u hu; simp at hu; rcases hu with rfl; rfl
   case c3 => unfold maxLen; omega
   case c4 => omega
   intro g9 cap9 w9 hown9 hgrow9 hat9 _
   have HN9 : Hid (Nums w9 W.heap.size (.slice (some ⟨g9, 0, none⟩) (i + 1) cap9) (i + 1) F) := Nums.app hown9 rfl
   have HO9 : Hid (Old W w9) := HOz.out.grown hgrow9 fun q hq => (World.ownsRow.lt HNz.out q hq).1
   clear hown9 hgrow9 hat9 HNz HOz hbs ebs HSz
   go_wp2
   go_roundw
   case rel => exact ⟨i + 1, idx_next i, by omega, HN9, HO9⟩
   case measure => simp [intOf]; omega
  · have he : no = i := by omega
   subst he
   go_wp2_with fail
   go_ret
   exact ⟨HW0.out.trans HO.out, _, rfl, HN.out.mono HW0.out.size⟩
end
end Go.Proofs.YtlnmjbbpenhdbaaGreat
