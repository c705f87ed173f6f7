/-
  The contracts of the document's In, Exp, Lay, Back and Right (layer 4).
-/
import Derived.Test.YtmmicbdjafolpaeGmath
import Derived.Test.YtmmicbdjafolpaeRef3
import Derived.Test.YtmmicbdjafolpaeOld
import Derived.Laws.IdiomStrings
namespace Go.Proofs.Ytmmicbdjafolpae
open Go.RowKit

/-- A group as a value. -/
abbrev gv (P Q G H : Int) (a : Option Addr) (n cap : Nat) : Value := .agg #[.int .u64 P, .int .u64 Q, .int .u64 G, .int .u64 H, .slice a n cap]
theorem gcell {P Q G H : Int} {a : Option Addr} {n cap : Nat} (w : World) (t : TypeId) (j : Nat) : (w.alloc (.cells #[.int .u64 P, .int .u64 Q, .int .u64 G, .int .u64 H, .slice a n cap] t)).cell? ⟨w.heap.size, j, none⟩ = (#[.int .u64 P, .int .u64 Q, .int .u64 G, .int .u64 H, .slice a n cap] : Array Value)[j]? := World.cell?_alloc_mark w _ t (0, 0) j
def inI (P Q x : Int) : Bool := decide (1 ≤ x) && decide (x < P) && (powI x Q P == 1)
theorem inI_iff {P Q x : Int} : inI P Q x = true ↔ 1 ≤ x ∧ x < P ∧ powI x Q P = 1 := by
  unfold inI
  simp [and_assoc]

theorem rin_any (P Q G H x : Int) (a : Option Addr) (n cap : Nat) (w : World) (q0 : 0 ≤ Q) (q1 : Q ≤ 18446744073709551615) (x1 : x ≤ 18446744073709551615) :
    Calls Try.prog 40 #[gv P Q G H a n cap, .int .u64 x] w fun e w' => e = .returned (.bool (inI P Q x)) ∧ Old w w' := by
  have HW : Hid (∀ o, Old w (w.alloc o)) := fun o => (Old.refl w).alloc o
  by_cases h1 : 1 ≤ x
  · by_cases h2 : x < P
    · have HC : Hid (∀ wx, Calls Try.prog 60 #[.int .u64 x, .int .u64 Q, .int .u64 P] wx fun e w' => e = .returned (.int .u64 (powI x Q P)) ∧ ∃ n, w' = wx.drewN n) := fun wx => rpow_any x Q P wx (by omega) x1 q0 q1
      have HE : Hid (inI P Q x = (powI x Q P == 1)) := by unfold Hid inI; simp [h1, h2]
      generalize powI x Q P = y at *
      go_enter Try.func40, Try.ntmps40
      go_wp2_with (go_at_call 60; refine (HC.out _).mono ?_; rintro e w1 ⟨rfl, k1, hw1⟩)
      go_ret
      refine ⟨by rw [HE.out]; rfl, ?_⟩
      first
        | exact (HW.out _).drewN _
        | (rw [hw1]; exact (HW.out _).drewN _)
    · have HE : Hid (inI P Q x = false) := by unfold Hid inI; simp [h2]
      go_enter Try.func40, Try.ntmps40
      go_wp2_with fail
      go_ret
      exact ⟨by rw [HE.out]; rfl, HW.out _⟩
  · have HE : Hid (inI P Q x = false) := by unfold Hid inI; simp [h1]
    go_enter Try.func40, Try.ntmps40
    go_wp2_with fail
    go_ret
    exact ⟨by rw [HE.out]; rfl, HW.out _⟩

/-- What a number is laid on; whether it is. -/
def layI (P Q k : Int) : Int := if Q ≤ k then 0 else if inI P Q (k + 1) then k + 1 else (P - k - 1) % 18446744073709551616
def layB (Q k : Int) : Bool := !decide (Q ≤ k)
def backI (P Q x : Int) : Int := if inI P Q x then (if x ≤ Q then x - 1 else (P - x - 1) % 18446744073709551616) else 0

def expI (P Q x e : Int) : Int := if Q < 2 then 0 else powI x (e % Q) P
theorem rexp_any (P Q G H x e : Int) (a : Option Addr) (n cap : Nat) (w : World) (q1 : Q ≤ 18446744073709551615) (x0 : 0 ≤ x) (x1 : x ≤ 18446744073709551615) (e0 : 0 ≤ e) (e1 : e ≤ 18446744073709551615) :
    Calls Try.prog 46 #[gv P Q G H a n cap, .int .u64 x, .int .u64 e] w fun r w' => r = .returned (.int .u64 (expI P Q x e)) ∧ Old w w' := by
  have HW : Hid (∀ o, Old w (w.alloc o)) := fun o => (Old.refl w).alloc o
  by_cases h2 : Q < 2
  · have HE : Hid (expI P Q x e = 0) := by unfold Hid expI; rw [if_pos h2]
    go_enter Try.func46, Try.ntmps46
    go_wp2_with fail
    go_ret
    exact ⟨by rw [HE.out]; rfl, HW.out _⟩
  · have HE : Hid (expI P Q x e = powI x (e % Q) P) := by unfold Hid expI; rw [if_neg h2]
    have m0 : 0 ≤ e % Q := Int.emod_nonneg _ (by omega)
    have m1 : e % Q < Q := Int.emod_lt_of_pos _ (by omega)
    go_enter Try.func46, Try.ntmps46
    go_wp2_with fail
    go_quiet ((go_at_call 60; exact Calls.quiet_of (rpow_any x (e % Q) P _ x0 x1 m0 (by omega))))
    go_wp2_with fail
    go_ret
    exact ⟨by rw [HE.out]; rfl, (HW.out _).drewN _⟩

end Go.Proofs.Ytmmicbdjafolpae
