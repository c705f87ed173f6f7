/-
  The contracts of the document's functions of layer 1 at this seat.
-/
import Derived.Test.YtljfjjfckepkdadProg
import Derived.Test.YtljfjjfckepkdadSpec
import Derived.WalkKit
import Derived.Deep.QuietTactic
import Derived.BigQuiet
import Derived.WalkSmall
namespace Go.Proofs.Ytljfjjfckepkdad
open Go.RowKit

theorem ret_u64 {a b : Int} (h : a = b) : Ending.returned (.int .u64 a) = .returned (.int .u64 b) := by rw [h]

theorem sub_add (a b m : Int) : (a + (m - b % m)) % m = (a - b) % m := by
  rw [show a + (m - b % m) = (a - b % m) + m * 1 by omega, Int.add_mul_emod_self_left]
  exact cong_sub rfl (mod_self _ _)

theorem mr_odd (s t n m s' t' : Int) (e d : Int) (hn : n % 2 = 1) (hs : s' = s + t - m * e) (ht : t' = t + t - m * d) : (s' + t' * (n / 2)) % m = (s + t * n) % m := by
  subst hs ht
  have := mul_odd s t (n / 2) m e d
  rwa [show 2 * (n / 2) + 1 = n by omega] at this
theorem mr_even (s t n m t' : Int) (d : Int) (hn : n % 2 = 0) (ht : t' = t + t - m * d) : (s + t' * (n / 2)) % m = (s + t * n) % m := by
  subst ht
  have := mul_even s t (n / 2) m d
  rwa [show 2 * (n / 2) = n by omega] at this

theorem ret_inv {a b : Int} {x y : Bool} (h : a = b) (h' : x = y) : Ending.returned (.tuple #[.int .u64 a, .bool x]) = .returned (.tuple #[.int .u64 b, .bool y]) := by rw [h, h']

end Go.Proofs.Ytljfjjfckepkdad
