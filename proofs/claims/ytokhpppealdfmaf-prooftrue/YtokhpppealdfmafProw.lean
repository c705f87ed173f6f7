/-
  The program's rowOfOne (layer 7).
-/
import Derived.Test.YtokhpppealdfmafPmk
import Derived.Test.YtokhpppealdfmafK18
namespace Go.Proofs.Ytokhpppealdfmaf
open Go.RowKit

/-- The base at its place, else 1. -/
def rowAt (x : Int) (p : Nat) : Nat → Int := fun k => if k = p then x else 1
theorem u64_rowAt {x : Int} (hx : U64 x) (p : Nat) : ∀ k, U64 (rowAt x p k) := fun k => by
  unfold rowAt
  split
  · exact hx
  · exact ⟨by omega, by omega⟩

set_option linter.unusedSimpArgs false in
set_option maxRecDepth 100000 in
set_option maxHeartbeats 4000000 in
theorem prow_any (x : Int) (p : Nat) (w : World) (hp : p < 3) :
    Calls Try.prog 62 #[.int .u64 x, .int .i64 (p : Int)] w fun e w' => e = .returned (.slice (some ⟨w.heap.size, 0, none⟩) 3 3) ∧ Old w w' ∧ Full w' w.heap.size 3 (rowAt x p) := by
  have hmk : ∀ wx, (Instr.makeSlice 27 (.int .i64 3) (.int .i64 3)).run Try.prog wx = .ok (.slice (some ⟨wx.heap.size, 0, none⟩) 3 3) (wx.alloc (.cells (madeCells #[Value.int .u64 0] 3) 22)) := make_run 3 (by omega)
  have HF0 : Hid (Full (w.alloc (.cells (madeCells #[Value.int .u64 0] 3) 22)) w.heap.size 3 (upTo 0 (fun _ => 1))) := full_zero w 3 _
  have HO0 : Hid (Old w (w.alloc (.cells (madeCells #[Value.int .u64 0] 3) 22))) := (Old.refl _).alloc _
  have p0 : (0 : Int) ≤ (p : Int) := by omega
  have p1 : (p : Int) < 3 := by omega
  go_enter Try.func62, Try.ntmps62
  go_upto_region 2 with fail
  generalize w.alloc (.cells (madeCells #[Value.int .u64 0] 3) 22) = W1 at *
  go_upto_region 3 with fail
  go_loopw [10] (fun iv wx => ∃ i : Nat, iv = .int .i64 (i : Int) ∧ i ≤ 3 ∧ Hid (Full wx w.heap.size 3 (upTo i (fun _ => 1))) ∧ Hid (Old w wx)) (fun iv _ => 3 - (intOf iv).toNat)
  case atStart => exact ⟨0, rfl, Nat.zero_le _, HF0, HO0⟩
  case round =>
    obtain ⟨i, rfl, hi1, HN, HW⟩ := hrel
    by_cases hlt : i < 3
    · have q0 := HN.out.cell i hlt
      have f0 := HN.out.free i
      have i1 : (i : Int) < 3 := by omega
      have HG : Hid (Full (wr.setCell ⟨w.heap.size, i, none⟩ (.int .u64 1)) w.heap.size 3 (upTo (i + 1) (fun _ => 1))) := HN.out.next
      have HG2 : Hid (Old w (wr.setCell ⟨w.heap.size, i, none⟩ (.int .u64 1))) := HW.out.setCell (Nat.le_refl _) _
      go_wp2_with fail
      go_roundw
      case rel => exact ⟨i + 1, idx_next i, by omega, HG, HG2⟩
      case measure => simp [intOf]; omega
    · have he : i = 3 := by omega
      subst he
      have q0 := HN.out.cell p hp
      have f0 := HN.out.free p
      have HG : Hid (Full (wr.setCell ⟨w.heap.size, p, none⟩ (.int .u64 x)) w.heap.size 3 (rowAt x p)) := (HN.out.set p x).congr fun k hk => by by_cases hkp : k = p <;> simp [rowAt, upTo, hk, hkp]
      have HG2 : Hid (Old w (wr.setCell ⟨w.heap.size, p, none⟩ (.int .u64 x))) := HW.out.setCell (Nat.le_refl _) _
      go_wp2_with fail
      go_ret
      exact ⟨rfl, HG2.out, HG.out⟩

end Go.Proofs.Ytokhpppealdfmaf
