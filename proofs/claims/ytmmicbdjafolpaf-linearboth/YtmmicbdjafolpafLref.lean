/-
  The contracts of the document's functions of layer 6: the same numbers, answers, draws, what is extracted.
-/
import Derived.Test.YtmmicbdjafolpafLlie
import Derived.Deep.RegionHeld3
import Derived.Deep.AppendLies
namespace Go.Proofs.Ytmmicbdjafolpaf
open Go.RowKit

/-- A list of numbers of its own, and whether there is one. -/
def Gives (w : World) (ok : Bool) (k : Nat) (F : Nat → Int) (r : Ending) (w' : World) : Prop := ∃ v, r = .returned (.tuple #[v, .bool ok]) ∧ Nums w' w.heap.size v (if ok then k else 0) F ∧ Old w w'
theorem Nums.mono {w : World} {base base' k : Nat} {v : Value} {F : Nat → Int} (h : Nums w base v k F) (hb : base' ≤ base) : Nums w base' v k F := World.ownsRow.mono h hb

theorem gives_yes {w w' : World} {ok : Bool} {k : Nat} {F : Nat → Int} {v : Value} (hok : ok = true) (hN : Nums w' w.heap.size v k F) (ho : Old w w') : Gives w ok k F (.returned (.tuple #[v, .bool true])) w' := by
  subst hok
  exact ⟨v, rfl, by simpa using hN, ho⟩
theorem gives_no {w w' : World} {ok : Bool} {k : Nat} {F : Nat → Int} (hok : ok = false) (ho : Old w w') : Gives w ok k F (.returned (.tuple #[.slice none 0 0, .bool false])) w' := by
  subst hok
  exact ⟨_, rfl, by simpa using nums_nil w' w.heap.size F, ho⟩

set_option maxHeartbeats 1000000 in
theorem rsame_any (b1 : Option Addr) (n1 c1 : Nat) (X : Nat → Int) (b2 : Option Addr) (n2 c2 : Nat) (Y : Nat → Int) (w : World) (m1 : n1 ≤ 9223372036854775807) (h1 : FacsIn w b1 n1 X) (h2 : FacsIn w b2 n2 Y) :
    Calls Try.prog 14 #[.slice b1 n1 c1, .slice b2 n2 c2] w fun e w' => e = .returned (.bool (sameB n1 X n2 Y)) ∧ Old w w' := by
  have HX : Hid (FacsIn w b1 n1 X) := h1
  have HY : Hid (FacsIn w b2 n2 Y) := h2
  clear h1 h2
  by_cases hn : n1 = n2
  · subst hn
    go_enter Try.func14, Try.ntmps14
    go_wp2_with fail
    go_loopw [5] (fun iv wx => ∃ i : Nat, iv = .int .i64 (i : Int) ∧ i ≤ n1 ∧ Hid (Old w wx) ∧ Hid (∀ j, j < i → X j = Y j)) (fun iv _ => n1 - (intOf iv).toNat)
    case atStart => exact ⟨0, rfl, Nat.zero_le _, Old.refl _, fun j hj => by omega⟩
    case round =>
      obtain ⟨i, rfl, hi, HO, HJ⟩ := hrel
      by_cases hlt : i < n1
      · rcases HX.out.old HO.out with h0 | ⟨bx, ox, hqx, _, hrx⟩
        · omega
        rcases HY.out.old HO.out with h0 | ⟨by_, oy, hqy, _, hry⟩
        · omega
        have cx := (hrx i hlt).1
        have cy := (hry i hlt).1
        clear hrx hry
        subst hqx hqy
        by_cases he : X i = Y i
        · have HM : Hid (X i = Y i) := he
          rw [← he] at cy
          clear he
          go_upto_region 6 with fail
          go_quiet (fail)
          go_wp2_with fail
          go_roundw
          case rel => exact ⟨i + 1, idx_next i, by omega, by first | exact HO.out | exact HO.out.drew | exact HO.out.drewN _, upto_succ HJ.out HM.out⟩
          case measure => simp [intOf]; omega
        · have HN : Hid (sameB n1 X n1 Y = false) := no_of fun hc => he ((sameB_iff.1 hc).2 i hlt)
          go_upto_region 6 with fail
          go_quiet (fail)
          go_wp2_with fail
          go_ret
          exact ⟨ret_bool HN.out.symm, by first | exact HO.out | exact HO.out.drew | exact HO.out.drewN _⟩
      · have he : n1 = i := by omega
        subst he
        have HN : Hid (sameB n1 X n1 Y = true) := sameB_iff.2 ⟨rfl, HJ.out⟩
        go_wp2_with fail
        go_ret
        exact ⟨ret_bool HN.out.symm, HO.out⟩
  · have HN : Hid (sameB n1 X n2 Y = false) := no_of fun hc => hn (sameB_iff.1 hc).1
    have k1 : ¬ (n1 : Int) = (n2 : Int) := by omega
    go_enter Try.func14, Try.ntmps14
    go_wp2_with fail
    go_ret
    exact ⟨ret_bool HN.out.symm, Old.refl _⟩

end Go.Proofs.Ytmmicbdjafolpaf
