/-
  The program's numbers as bytes (layer 7).
-/
import Derived.Test.YtokhpppealdfmafPcha
namespace Go.Proofs.Ytokhpppealdfmaf
open Go.RowKit

theorem make8_run (n : Nat) (h : n ≤ 1000) (w : World) : (Instr.makeSlice 113 (.int .i64 0) (.int .i64 (8 * (n : Int)))).run Try.prog w = .ok (.slice (some ⟨w.heap.size, 0, none⟩) 0 (8 * n)) (w.alloc (.cells (madeCells #[Value.int .u8 0] (8 * n)) 5)) := by
  obtain ⟨i, hi, hzz⟩ := Option.map_eq_some_iff.1 u8info
  simp only [Prod.mk.injEq] at hzz
  obtain ⟨hz, hs, hb⟩ := hzz
  have hr := run_make (P := Try.prog) w 113 5 i (.int .u8 0) Try.underlying113 hi hz .i64 .i64 0 (8 * (n : Int)) (Int.le_refl _) (by omega) (by rw [hb]; omega) (by omega)
  have e : (8 * (n : Int)).toNat = 8 * n := by omega
  rw [e, hs, Nat.mul_one] at hr
  exact hr

set_option linter.unusedSimpArgs false in
set_option maxRecDepth 100000 in
set_option maxHeartbeats 4000000 in
theorem pbytes_any (b : Option Addr) (n cap : Nat) (F : Nat → Int) (w : World) (hn : n ≤ 1000) (h : FacsIn w b n F) :
    Calls Try.prog 78 #[.slice b n cap] w fun e w' => e = .returned (.string (strOfNums (packL F n))) ∧ Old w w' := by
  obtain ⟨i0, hi0, hz0, hz1, hz2⟩ := info_parts u8info
  have HX : Hid (FacsIn w b n F) := h
  have hmk : ∀ wx, (Instr.makeSlice 113 (.int .i64 0) (.int .i64 (8 * (n : Int)))).run Try.prog wx = .ok (.slice (some ⟨wx.heap.size, 0, none⟩) 0 (8 * n)) (wx.alloc (.cells (madeCells #[Value.int .u8 0] (8 * n)) 5)) := make8_run n hn
  clear h
  have HO0 : Hid ((w.alloc (.cells (madeCells #[Value.int .u8 0] (8 * n)) 5)).ownsRow w.heap.size 5 1 (.slice (some ⟨w.heap.size, 0, none⟩) 0 (8 * n)) 0 []) := World.ownsRow_made w _ (8 * n) (Nat.le_refl _) (by unfold maxLen; omega) (by rw [size_madeCells]; omega)
  have HW0 : Hid (Old w (w.alloc (.cells (madeCells #[Value.int .u8 0] (8 * n)) 5))) := (Old.refl _).alloc _
  go_enter Try.func78, Try.ntmps78
  go_wp2_with fail
  go_loopw [3, 13] (fun v iv wx => ∃ i : Nat, iv = .int .i64 (i : Int) ∧ i ≤ n ∧ Hid (v ≠ .slice none 0 0) ∧ Hid (wx.ownsRow w.heap.size 5 1 v (8 * i) ((packL F i).map (Value.int .u8))) ∧ Hid (Old w wx)) (fun _ iv _ => n - (intOf iv).toNat)
  case atStart => exact ⟨0, rfl, Nat.zero_le _, (by unfold Hid; simp), HO0, HW0⟩
  case round =>
    obtain ⟨i, rfl, hi, HE, HV, HO⟩ := hrel
    by_cases hlt : i < n
    · rcases HX.out.old HO.out with h0 | ⟨bx, ox, hqx, _, hrx⟩
      · omega
      have cx := (hrx i hlt).1
      clear hrx
      subst hqx
      have HP : Hid (packL F (i + 1) = packL F i ++ bytesP (F i) 8 8) := rfl
      generalize F i = x at *
      go_wp2_with fail
      go_loopw [3, 6] (fun v sv wx => ∃ j r : Nat, j + r = 8 ∧ sv = .int .i64 (8 * (r : Int) - 8) ∧ Hid (v ≠ .slice none 0 0) ∧ Hid (wx.ownsRow w.heap.size 5 1 v (8 * i + j) ((packL F i ++ bytesP x 8 j).map (Value.int .u8))) ∧ Hid (Old w wx)) (fun _ sv _ => (intOf sv + 8).toNat)
      case atStart => exact ⟨0, 8, by omega, rfl, HE, by have := HV; unfold Hid at this ⊢; simpa [bytesP] using this, HO⟩
      case round =>
        obtain ⟨j, r, hjr, rfl, HE2, HV2, HO2⟩ := hrel
        cases r with
        | zero =>
          obtain rfl : j = 8 := by omega
          have HV3 : Hid (wr.ownsRow w.heap.size 5 1 u3 (8 * (i + 1)) ((packL F (i + 1)).map (Value.int .u8))) := by rw [HP.out]; exact HV2
          go_wp2_with fail
          go_roundw
          case rel => exact ⟨i + 1, idx_next i, by omega, HE2, HV3, HO2⟩
          case measure => simp [intOf]; omega
        | succ q =>
          have eq : (8 : Int) * ((q + 1 : Nat) : Int) - 8 = ((8 * q : Nat) : Int) := by omega
          simp only [eq]
          clear eq
          have hs := HO2.out.size
          have HB : Hid (bytesP x 8 (j + 1) = bytesP x 8 j ++ [byteAt x q]) := by unfold Hid; rw [bytesP_succ, show 8 - 1 - j = q by omega]
          have q0 : (0 : Int) ≤ ((8 * q : Nat) : Int) := by omega
          have q1 : ((8 * q : Nat) : Int) < 64 := by omega
          go_wp2_with (at_builtin; refine wpList_append_own _ rfl _ _ 113 rfl w.heap.size 5 i0 (.int .u8 0) 1 1 Try.underlying113 hi0 hz0 hz1 hz2 rfl (by decide) _ _ _ rfl (World.ownsRow.alloc HV2.out _) ⟨wr.heap.size, 0, none⟩ 1 1 [.int .u8 (byteAt x q)] rfl rfl ?c1 ?c2 ?c3 ?c4 ?c5 ?_)
          case c1 => exact cell_one_new _ _ _
          case c2 => intro u hu; simp at hu; subst hu; rfl
          case c3 => unfold maxLen; omega
          case c4 => omega
          case c5 => simp; omega
          intro v' w1 hown' hgrow hne
          have HE3 : Hid (v' ≠ .slice none 0 0) := hne
          clear hne
          have HO3 : Hid (Old w w1) := old_app HO2.out HV2.out hgrow
          have HV3 : Hid (w1.ownsRow w.heap.size 5 1 v' (8 * i + (j + 1)) ((packL F i ++ bytesP x 8 (j + 1)).map (Value.int .u8))) := by
            rw [HB.out]
            simp only [List.map_append, List.map_cons, List.map_nil, List.append_assoc] at hown' ⊢
            exact hown'
          clear hown' hgrow
          go_wp2_with fail
          go_roundw
          case rel => exact ⟨j + 1, q, by omega, by first | rfl | (congr 1; omega), HE3, HV3, HO3⟩
          case measure => simp [intOf]; omega
    · have he : n = i := by omega
      subst he
      have zl := packL_len F n
      have HC : Hid (∃ g c, u3 = .slice g (8 * n) c ∧ (convert 113 9 (.slice g (8 * n) c)).run Try.prog wr = .ok (.string (strOfNums (packL F n))) wr) := by
        rcases HV.out.2 with ⟨hv, _⟩ | ⟨g, c, cur, hv, _, _, _⟩
        · exact absurd hv HE.out
        · subst hv
          refine ⟨_, c, rfl, run_convert_bytes_arg wr 113 5 Try.underlying113 Try.underlying5 g 0 (8 * n) c (packL F n) zl (fun i hi => ?_) 9 Try.underlying9⟩
          rw [Nat.zero_add, HV.out.cellAt i (by omega), List.getElem?_map, List.getD, List.getElem?_eq_getElem (by omega)]
          rfl
      obtain ⟨g, c, rfl, hcv⟩ := HC.out
      clear HV
      go_wp2_with fail
      go_ret
      exact ⟨rfl, HO.out⟩

end Go.Proofs.Ytokhpppealdfmaf
