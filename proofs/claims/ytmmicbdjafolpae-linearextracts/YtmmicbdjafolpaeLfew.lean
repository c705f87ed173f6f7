/-
  The statements' Few (layer 6).
-/
import Derived.Test.YtmmicbdjafolpaeLref4
namespace Go.Proofs.Ytmmicbdjafolpae
open Go.RowKit

/-- Lists that lie one behind the other: how long each is. -/
def LensIn (w : World) (a : Option Addr) (n : Nat) (LA : Nat → Option Addr) (M C : Nat → Nat) : Prop :=
  n = 0 ∨ ∃ b off, a = some ⟨b, off, none⟩ ∧ b < w.heap.size ∧ ∀ i, i < n → w.cell? ⟨b, off + i, none⟩ = some (.slice (LA i) (M i) (C i))
theorem LensIn.old {w w' : World} {a : Option Addr} {n : Nat} {LA : Nat → Option Addr} {M C : Nat → Nat} (h : LensIn w a n LA M C) (ho : Old w w') : LensIn w' a n LA M C := by
  rcases h with h | ⟨b, off, ha, hb, hr⟩
  · exact Or.inl h
  · exact Or.inr ⟨b, off, ha, Nat.lt_of_lt_of_le hb ho.size, fun i hi => ho.cellOf (hr i hi)⟩
theorem ListsIn.lens {w : World} {a : Option Addr} {n : Nat} {BA : Nat → Option Addr} {L C : Nat → Nat} {B : Nat → Nat → Int} (h : ListsIn w a n BA L C B) : LensIn w a n BA L C := by
  rcases h with h | ⟨b, off, ha, hb, hr⟩
  · exact Or.inl h
  · exact Or.inr ⟨b, off, ha, hb, fun i hi => (hr i hi).1⟩

def fewL (k : Nat) (M : Nat → Nat) (m : Nat) : Bool := (List.range k).all fun i => decide (M i ≤ m)
theorem fewL_iff {k : Nat} {M : Nat → Nat} {m : Nat} : fewL k M m = true ↔ ∀ i, i < k → M i ≤ m := by simp [fewL]
def fewC (nt nb : Nat) (L : Nat → Nat) (k : Nat) (M : Nat → Nat) : Bool := decide (nt ≤ 20) && (decide (nb ≤ 20) && (fewL nb L 20 && fewL k M 80))
theorem fewC_iff {nt nb : Nat} {L : Nat → Nat} {k : Nat} {M : Nat → Nat} : fewC nt nb L k M = true ↔ nt ≤ 20 ∧ nb ≤ 20 ∧ (∀ i, i < nb → L i ≤ 20) ∧ ∀ i, i < k → M i ≤ 80 := by
  simp [fewC, fewL_iff]

set_option maxHeartbeats 4000000 in
theorem few6_any (bt : Option Addr) (nt ct : Nat) (bb : Option Addr) (nb cb : Nat) (BA : Nat → Option Addr) (L C : Nat → Nat) (bl : Option Addr) (nl cl : Nat) (LA : Nat → Option Addr) (M C2 : Nat → Nat) (w : World) (hnl : nl ≤ 9) (hB : LensIn w bb nb BA L C) (hL : LensIn w bl nl LA M C2) :
    Calls Try.prog 17 #[cv bt nt ct bb nb cb, .slice bl nl cl] w fun e w' => e = .returned (.bool (fewC nt nb L nl M)) ∧ Old w w' := by
  have HB : Hid (LensIn w bb nb BA L C) := hB
  have HL : Hid (LensIn w bl nl LA M C2) := hL
  clear hB hL
  have HZ := lain1 w (cc bt nt ct bb nb cb) 40
  have HF : Hid (∀ w', Lain w [(cc bt nt ct bb nb cb, 40)] w' → w'.cell? ⟨w.heap.size, 0, none⟩ = some (.slice bt nt ct) ∧ w'.cell? ⟨w.heap.size, 1, none⟩ = some (.slice bb nb cb)) := fun _ h => ⟨h.cell 0 0 (by simp) rfl, h.cell 0 1 (by simp) rfl⟩
  go_enter Try.func17, Try.ntmps17
  go_upto_region 1 with fail
  generalize hW : w.alloc (.cells (cc bt nt ct bb nb cb) 40) = W at *
  clear hW
  have HW0 : Hid (Old w W) := HZ.old
  obtain ⟨t0, t1⟩ := HF.out _ HZ
  by_cases h1 : 20 < nt
  · have HN : Hid (fewC nt nb L nl M = false) := no_of fun h => by have := (fewC_iff.1 h).1; omega
    have k1 : (20 : Int) < (nt : Int) := by omega
    go_wp2_with fail
    go_ret
    exact ⟨ret_bool HN.out.symm, HW0.out⟩
  by_cases h2 : 20 < nb
  · have HN : Hid (fewC nt nb L nl M = false) := no_of fun h => by have := (fewC_iff.1 h).2.1; omega
    have k1 : ¬ (20 : Int) < (nt : Int) := by omega
    have k2 : (20 : Int) < (nb : Int) := by omega
    go_wp2_with fail
    go_ret
    exact ⟨ret_bool HN.out.symm, HW0.out⟩
  have k1 : ¬ (20 : Int) < (nt : Int) := by omega
  have k2 : ¬ (20 : Int) < (nb : Int) := by omega
  go_wp2_with fail
  clear k1 k2
  go_loopw [22] (fun iv wx => ∃ i : Nat, iv = .int .i64 (i : Int) ∧ i ≤ nb ∧ wx = W ∧ Hid (∀ j, j < i → L j ≤ 20)) (fun iv _ => nb - (intOf iv).toNat)
  case atStart => exact ⟨0, rfl, Nat.zero_le _, rfl, fun j hj => by omega⟩
  case round =>
    obtain ⟨i, rfl, hi, rfl, HJ⟩ := hrel
    by_cases hlt : i < nb
    · rcases HB.out.old HW0.out with h0 | ⟨b, off, hq, _, hr⟩
      · omega
      have cl1 := hr i hlt
      clear hr
      subst hq
      by_cases hl : 20 < L i
      · have HN : Hid (fewC nt nb L nl M = false) := no_of fun h => by have := (fewC_iff.1 h).2.2.1 i hlt; omega
        have k3 : (20 : Int) < (L i : Int) := by omega
        go_wp2_with fail
        go_ret
        exact ⟨ret_bool HN.out.symm, HW0.out⟩
      · have HM : Hid (L i ≤ 20) := by unfold Hid; omega
        have k3 : ¬ (20 : Int) < (L i : Int) := by omega
        go_wp2_with fail
        go_roundw
        case rel => exact ⟨i + 1, idx_next i, by omega, by trivial, upto_succ HJ.out HM.out⟩
        case measure => simp [intOf]; omega
    · have he : nb = i := by omega
      subst he
      go_wp2_with fail
      go_loopw [32] (fun iv wx => ∃ i : Nat, iv = .int .i64 (i : Int) ∧ i ≤ nl ∧ Hid (Old w wx) ∧ Hid (∀ j, j < i → M j ≤ 80)) (fun iv _ => nl - (intOf iv).toNat)
      case atStart => exact ⟨0, rfl, Nat.zero_le _, HW0, fun j hj => by omega⟩
      case round =>
        obtain ⟨i, rfl, hi2, HO, HM⟩ := hrel
        by_cases hlt : i < nl
        · rcases HL.out.old HO.out with h0 | ⟨b, off, hq, _, hr⟩
          · omega
          have cl1 := hr i hlt
          clear hr
          subst hq
          by_cases hl : 80 < M i
          · have HN : Hid (fewC nt nb L nl M = false) := no_of fun h => by have := (fewC_iff.1 h).2.2.2 i hlt; omega
            have k3 : (80 : Int) < (M i : Int) := by omega
            go_wp2_with fail
            go_ret
            exact ⟨ret_bool HN.out.symm, HO.out⟩
          · have HM1 : Hid (M i ≤ 80) := by unfold Hid; omega
            have k3 : ¬ (80 : Int) < (M i : Int) := by omega
            go_wp2_with fail
            go_roundw
            case rel => exact ⟨i + 1, idx_next i, by omega, HO, upto_succ HM.out HM1.out⟩
            case measure => simp [intOf]; omega
        · have he : nl = i := by omega
          subst he
          have HN : Hid (fewC nt nb L nl M = true) := fewC_iff.2 ⟨by omega, by omega, HJ.out, HM.out⟩
          go_wp2_with fail
          go_ret
          exact ⟨ret_bool HN.out.symm, HO.out⟩

end Go.Proofs.Ytmmicbdjafolpae
