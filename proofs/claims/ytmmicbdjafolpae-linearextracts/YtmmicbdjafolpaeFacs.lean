/-
  The contracts of prime.partsWhole, factorsStand and hasFullOrder at this seat.
-/
import Derived.Test.YtmmicbdjafolpaeNamed
import Derived.Test.YtmmicbdjafolpaePows
namespace Go.Proofs.Ytmmicbdjafolpae
open Go.RowKit

theorem parts_no {F : Nat → Int} {L i : Nat} {s : Int} (hi : i < L) (h : s % F i ≠ 0) : partsG F (L - i) i s = false := by
  rw [show L - i = (L - (i + 1)) + 1 by omega]
  simp [partsG, h]
theorem parts_yes {F : Nat → Int} {L i : Nat} {s : Int} (hi : i < L) (h : s % F i = 0) : partsG F (L - i) i s = partsG F (L - (i + 1)) (i + 1) (stripI (F i) s) := by
  rw [show L - i = (L - (i + 1)) + 1 by omega]
  simp [partsG, h]
theorem parts_end {F : Nat → Int} {L : Nat} {s : Int} : partsG F (L - L) L s = (s == 1) := by
  rw [Nat.sub_self]
  rfl

theorem stand_no1 {F : Nat → Int} {L : Nat} {N : Nat → Int} {k : Nat} (h : ¬ (1 ≤ L ∧ L ≤ 16)) : standB F L N k = false := no_of fun hc => h (standB_iff.1 hc).1
theorem stand_no2 {F : Nat → Int} {L : Nat} {N : Nat → Int} {k j : Nat} (hj : j < L) (h0 : 0 < j) (h : F j ≤ F (j - 1)) : standB F L N k = false := no_of fun hc => by
  rcases ((standB_iff.1 hc).2 j hj).1 with h' | h' <;> omega
theorem stand_no3 {F : Nat → Int} {L : Nat} {N : Nat → Int} {k j : Nat} (hj : j < L) (h : namedB N k (F j) = false) : standB F L N k = false := no_of fun hc => by
  have := ((standB_iff.1 hc).2 j hj).2
  rw [h] at this
  cases this

end Go.Proofs.Ytmmicbdjafolpae
