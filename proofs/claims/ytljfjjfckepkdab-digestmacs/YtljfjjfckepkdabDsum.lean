/-
  The contract of the program's Sum (layer 3).
-/
import Derived.Test.YtljfjjfckepkdabDbuild
import Derived.Test.YtljfjjfckepkdabDpieces
namespace Go.Proofs.Ytljfjjfckepkdab
open Go.RowKit

theorem dending_any (n : Nat) (w : World) (hn : n ≤ 1000000) :
    Calls Try.prog 32 #[.int .u64 (n : Int)] w fun e w' => e = .returned (.string (strOfNums (endL n))) ∧ Old w w' := by
  have hadd : ∀ xs ys : List Int, strOfNums xs ++ strOfNums ys = strOfNums (xs ++ ys) := str_add
  have hsz : ∀ xs : List Int, (strOfNums xs).size = xs.length := strOfNums_size
  have h128 : (ByteArray.mk #[128]) = strOfNums [128] := rfl
  have z8 := bytesL_len (8 * (n : Int)) 8
  have hz : (119 - (n : Int) % 64) % 64 = ((zeros n : Nat) : Int) := by unfold zeros; omega
  have hz2 := zeros_lt n
  have HE : Hid (endL n = [128] ++ List.replicate (zeros n) 0 ++ bytesL (8 * (n : Int)) 8) := by unfold Hid endL; rw [Int.mul_comm]
  go_enter Try.func32, Try.ntmps32
  go_upto_region 2 with fail
  go_wp2_with (first
    | (go_at_call 23; refine (drepeat_any (zeros n) _ (by omega)).mono ?_; rintro e w1 ⟨rfl, ho1⟩)
    | (go_at_call 34; refine (dbytes_any _ 8 _ (by omega) (by omega)).mono ?_; rintro e w2 ⟨rfl, ho2⟩))
  go_ret
  exact ⟨by rw [HE.out]; rfl, ho1.trans ho2⟩

theorem stateFrom_congr {h B C : Nat → Int} : ∀ m, (∀ j, j < 64 * m → B j = C j) → stateFrom h B m = stateFrom h C m
  | 0, _ => rfl
  | m + 1, hb => by
    have ih := stateFrom_congr (h := h) m fun j hj => hb j (by omega)
    funext i
    show add32 (stateFrom h B m i) (rounds (sched (fun j => B (64 * m + j)) 64) 64 (stateFrom h B m) i) = add32 (stateFrom h C m i) (rounds (sched (fun j => C (64 * m + j)) 64) 64 (stateFrom h C m) i)
    rw [ih, sched_congr (C := fun j => C (64 * m + j)) (fun j hj => hb _ (by omega)) 64 (Nat.le_refl _)]
theorem stateFrom_add (h B : Nat → Int) (m : Nat) : ∀ k, stateFrom (stateFrom h B m) (fun i => B (64 * m + i)) k = stateFrom h B (m + k)
  | 0 => rfl
  | k + 1 => by
    have ih := stateFrom_add h B m k
    funext i
    show add32 (stateFrom (stateFrom h B m) (fun i => B (64 * m + i)) k i) (rounds (sched (fun j => B (64 * m + (64 * k + j))) 64) 64 (stateFrom (stateFrom h B m) (fun i => B (64 * m + i)) k) i) = add32 (stateFrom h B (m + k) i) (rounds (sched (fun j => B (64 * (m + k) + j)) 64) 64 (stateFrom h B (m + k)) i)
    rw [ih]
    have e : (fun j => B (64 * m + (64 * k + j))) = fun j => B (64 * (m + k) + j) := funext fun j => congrArg B (by omega)
    rw [e]
theorem state_from (B : Nat → Int) : ∀ c, state B c = stateFrom hS B c
  | 0 => rfl
  | c + 1 => by
    funext i
    show add32 (state B c i) (rounds (sched (fun j => B (64 * c + j)) 64) 64 (state B c) i) = add32 (stateFrom hS B c i) (rounds (sched (fun j => B (64 * c + j)) 64) 64 (stateFrom hS B c) i)
    rw [state_from B c]
theorem padL_end (xs : List Int) : padL xs = xs ++ endL xs.length := by
  unfold padL endL
  simp only [List.append_assoc]
/-- Whole pieces first, then the rest with what follows it. -/
theorem sum_parts (xs : List Int) (m k : Nat) (hm : 64 * m ≤ xs.length) (hk : m + k = pieces xs.length) :
    stateFrom (stateFrom hS (fun i => (xs.take (64 * m)).getD i 0) m) (fun i => (xs.drop (64 * m) ++ endL xs.length).getD i 0) k = state (fun i => (padL xs).getD i 0) (pieces xs.length) := by
  rw [state_from, ← hk, ← stateFrom_add]
  have e1 : stateFrom hS (fun i => (xs.take (64 * m)).getD i 0) m = stateFrom hS (fun i => (padL xs).getD i 0) m := stateFrom_congr m fun j hj => by
    show (xs.take (64 * m)).getD j 0 = (padL xs).getD j 0
    rw [getD_take hj, padL_end, List.getD, List.getD, List.getElem?_append_left (by omega)]
  have e2 : (fun i => (xs.drop (64 * m) ++ endL xs.length).getD i 0) = fun i => (padL xs).getD (64 * m + i) 0 := by
    funext i
    rw [padL_end, ← List.drop_append_of_le_length hm, getD_drop]
  rw [e1, e2]

end Go.Proofs.Ytljfjjfckepkdab
