/-
  The program's small functions over 32 bits: rotations, choice, majority (layer 3).
-/
import Derived.Test.YtljfjjfckepkdabSha
import Derived.Deep.RegionWith
namespace Go.Proofs.Ytljfjjfckepkdab
open Go.RowKit

theorem turn_bits : ∀ n : Fin 32, 0 < n.val → bits .and .u64 (18446744073709551616 - (n.val : Int)) 31 = 32 - (n.val : Int) := by decide +kernel
theorem or32_comm (a b : Int) : or32 a b = or32 b a := by
  unfold or32 bits
  simp only [BitVec.or_comm]

theorem rotl_any (x : Int) (n : Nat) (w : World) (n0 : 0 < n) (n1 : n < 32) :
    Calls Try.prog 58 #[.int .u32 x, .int .i64 (-(n : Int))] w fun e w' => e = .returned (.int .u32 (rot x n)) ∧ w' = w := by
  have hb := turn_bits ⟨n, n1⟩ n0
  have hw : IntKind.u64.wrap (-(n : Int)) = 18446744073709551616 - (n : Int) := by
    unfold IntKind.wrap
    rw [show IntKind.u64.bits = 64 from rfl]
    simp [IntKind.signed]
    omega
  go_enter Try.func58, Try.ntmps58
  go_wp2_with fail
  go_ret
  refine ⟨?_, rfl⟩
  rw [show 32 - (32 - n) = n by omega]
  exact congrArg (fun a => Ending.returned (.int .u32 a)) (or32_comm _ _)

theorem dturned_any (x : Int) (i j k : Nat) (w : World) (hi : 0 < i ∧ i < 32) (hj : 0 < j ∧ j < 32) (hk : 0 < k ∧ k < 32) :
    Calls Try.prog 51 #[.int .u32 x, .int .i64 (i : Int), .int .i64 (j : Int), .int .i64 (k : Int)] w fun e w' => e = .returned (.int .u32 (xor32 (xor32 (rot x i) (rot x j)) (rot x k))) ∧ w' = w := by
  go_enter Try.func51, Try.ntmps51
  go_wp2_with (first
    | (go_at_call_of 58 (Value.int IntKind.i64 (-(i : Int))); refine (rotl_any x i _ hi.1 hi.2).mono ?_)
    | (go_at_call_of 58 (Value.int IntKind.i64 (-(j : Int))); refine (rotl_any x j _ hj.1 hj.2).mono ?_)
    | (go_at_call_of 58 (Value.int IntKind.i64 (-(k : Int))); refine (rotl_any x k _ hk.1 hk.2).mono ?_))
  rintro e w' ⟨rfl, rfl⟩
  go_wp2_with (first
    | (go_at_call_of 58 (Value.int IntKind.i64 (-(j : Int))); refine (rotl_any x j _ hj.1 hj.2).mono ?_))
  rintro e w' ⟨rfl, rfl⟩
  go_wp2_with (first
    | (go_at_call_of 58 (Value.int IntKind.i64 (-(k : Int))); refine (rotl_any x k _ hk.1 hk.2).mono ?_))
  rintro e w' ⟨rfl, rfl⟩
  go_wp2_with fail
  go_ret
  exact ⟨rfl, rfl⟩

theorem dshift_any (x : Int) (i j k : Nat) (w : World) (hi : 0 < i ∧ i < 32) (hj : 0 < j ∧ j < 32) (hk : 0 < k ∧ k < 32) :
    Calls Try.prog 57 #[.int .u32 x, .int .i64 (i : Int), .int .i64 (j : Int), .int .i64 (k : Int)] w fun e w' => e = .returned (.int .u32 (xor32 (xor32 (rot x i) (rot x j)) (x / 2 ^ k))) ∧ ∃ n, w' = w.drewN n := by
  have k0 : (0 : Int) ≤ (k : Int) := by omega
  go_enter Try.func57, Try.ntmps57
  go_wp2_with fail
  go_quiet (first
    | (go_at_call_of 58 (Value.int IntKind.i64 (-(i : Int))); exact Calls.quiet_of_same (rotl_any x i _ hi.1 hi.2))
    | (go_at_call_of 58 (Value.int IntKind.i64 (-(j : Int))); exact Calls.quiet_of_same (rotl_any x j _ hj.1 hj.2)))
  go_wp2
  go_ret
  exact ⟨rfl, _, rfl⟩

theorem dchoice_any (x y z : Int) (w : World) :
    Calls Try.prog 52 #[.int .u32 x, .int .u32 y, .int .u32 z] w fun e w' => e = .returned (.int .u32 (pick x y z)) ∧ w' = w := by
  go_enter Try.func52, Try.ntmps52
  go_wp2_with fail
  go_ret
  exact ⟨rfl, rfl⟩

theorem dmost_any (x y z : Int) (w : World) :
    Calls Try.prog 53 #[.int .u32 x, .int .u32 y, .int .u32 z] w fun e w' => e = .returned (.int .u32 (most x y z)) ∧ w' = w := by
  go_enter Try.func53, Try.ntmps53
  go_wp2_with fail
  go_ret
  exact ⟨rfl, rfl⟩

end Go.Proofs.Ytljfjjfckepkdab
