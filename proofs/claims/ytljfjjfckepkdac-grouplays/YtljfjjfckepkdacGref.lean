/-
  The contracts of the document's In, Exp, Lay, Back and Right (layer 4).
-/
import Derived.Test.YtljfjjfckepkdacGmath
import Derived.Test.YtljfjjfckepkdacRef3
import Derived.Test.YtljfjjfckepkdacOld
import Derived.Laws.IdiomStrings
namespace Go.Proofs.Ytljfjjfckepkdac
open Go.RowKit

/-- A group as a value. -/
abbrev gv (P Q G H : Int) (a : Option Addr) (n cap : Nat) : Value := .agg #[.int .u64 P, .int .u64 Q, .int .u64 G, .int .u64 H, .slice a n cap]
theorem gcell {P Q G H : Int} {a : Option Addr} {n cap : Nat} (w : World) (t : TypeId) (j : Nat) : (w.alloc (.cells #[.int .u64 P, .int .u64 Q, .int .u64 G, .int .u64 H, .slice a n cap] t)).cell? ⟨w.heap.size, j, none⟩ = (#[.int .u64 P, .int .u64 Q, .int .u64 G, .int .u64 H, .slice a n cap] : Array Value)[j]? := World.cell?_alloc_mark w _ t (0, 0) j
def inI (P Q x : Int) : Bool := decide (1 ≤ x) && decide (x < P) && (powI x Q P == 1)
theorem inI_iff {P Q x : Int} : inI P Q x = true ↔ 1 ≤ x ∧ x < P ∧ powI x Q P = 1 := by
  unfold inI
  simp [and_assoc]

theorem rin_any (P Q G H x : Int) (a : Option Addr) (n cap : Nat) (w : World) (q0 : 0 ≤ Q) (q1 : Q ≤ 18446744073709551615) (x1 : x ≤ 18446744073709551615) :
    Calls Try.prog 10 #[gv P Q G H a n cap, .int .u64 x] w fun e w' => e = .returned (.bool (inI P Q x)) ∧ Old w w' := by
  have HW : Hid (∀ o, Old w (w.alloc o)) := fun o => (Old.refl w).alloc o
  by_cases h1 : 1 ≤ x
  · by_cases h2 : x < P
    · have HC : Hid (∀ wx, Calls Try.prog 23 #[.int .u64 x, .int .u64 Q, .int .u64 P] wx fun e w' => e = .returned (.int .u64 (powI x Q P)) ∧ ∃ n, w' = wx.drewN n) := fun wx => rpow_any x Q P wx (by omega) x1 q0 q1
      have HE : Hid (inI P Q x = (powI x Q P == 1)) := by unfold Hid inI; simp [h1, h2]
      generalize powI x Q P = y at *
      go_enter Try.func10, Try.ntmps10
      go_wp2_with (go_at_call 23; refine (HC.out _).mono ?_; rintro e w1 ⟨rfl, k1, hw1⟩)
      go_ret
      refine ⟨by rw [HE.out]; rfl, ?_⟩
      first
        | exact (HW.out _).drewN _
        | (rw [hw1]; exact (HW.out _).drewN _)
    · have HE : Hid (inI P Q x = false) := by unfold Hid inI; simp [h2]
      go_enter Try.func10, Try.ntmps10
      go_wp2_with fail
      go_ret
      exact ⟨by rw [HE.out]; rfl, HW.out _⟩
  · have HE : Hid (inI P Q x = false) := by unfold Hid inI; simp [h1]
    go_enter Try.func10, Try.ntmps10
    go_wp2_with fail
    go_ret
    exact ⟨by rw [HE.out]; rfl, HW.out _⟩

/-- What a number is laid on; whether it is. -/
def layI (P Q k : Int) : Int := if Q ≤ k then 0 else if inI P Q (k + 1) then k + 1 else (P - k - 1) % 18446744073709551616
def layB (Q k : Int) : Bool := !decide (Q ≤ k)
def backI (P Q x : Int) : Int := if inI P Q x then (if x ≤ Q then x - 1 else (P - x - 1) % 18446744073709551616) else 0

theorem rlay_any (P Q G H k : Int) (a : Option Addr) (n cap : Nat) (w : World) (q0 : 0 ≤ Q) (q1 : Q ≤ 18446744073709551615) (k0 : 0 ≤ k) (k1 : k ≤ 18446744073709551615) :
    Calls Try.prog 12 #[gv P Q G H a n cap, .int .u64 k] w fun e w' => e = .returned (.tuple #[.int .u64 (layI P Q k), .bool (layB Q k)]) ∧ Old w w' := by
  have HW : Hid (∀ o, Old w (w.alloc o)) := fun o => (Old.refl w).alloc o
  by_cases h1 : Q ≤ k
  · have HE : Hid (layI P Q k = 0 ∧ layB Q k = false) := by unfold Hid layI layB; simp [h1]
    go_enter Try.func12, Try.ntmps12
    go_wp2_with fail
    go_ret2
    exact ⟨by rw [HE.out.1, HE.out.2]; rfl, HW.out _⟩
  · have HC : Hid (∀ wx, Calls Try.prog 10 #[gv P Q G H a n cap, .int .u64 (k + 1)] wx fun e w' => e = .returned (.bool (inI P Q (k + 1))) ∧ Old wx w') := fun wx => rin_any P Q G H (k + 1) a n cap wx q0 q1 (by omega)
    have HB : Hid (layB Q k = true) := by unfold Hid layB; simp [h1]
    cases hi : inI P Q (k + 1) with
    | true =>
      have HE : Hid (layI P Q k = k + 1) := by unfold Hid layI; simp [h1, hi]
      rw [hi] at HC
      clear hi
      go_enter Try.func12, Try.ntmps12
      go_wp2_with (go_at_call 10; refine (HC.out _).mono ?_; rintro e w1 ⟨rfl, ho1⟩)
      go_ret2
      exact ⟨by rw [HE.out, HB.out]; rfl, (HW.out _).trans ho1⟩
    | false =>
      have HE : Hid (layI P Q k = (P - k - 1) % 18446744073709551616) := by unfold Hid layI; simp [h1, hi]
      rw [hi] at HC
      clear hi
      have HF : Hid (∀ t w', Old (w.alloc (.cells #[.int .u64 P, .int .u64 Q, .int .u64 G, .int .u64 H, .slice a n cap] t)) w' → w'.cell? ⟨w.heap.size, 0, none⟩ = some (.int .u64 P)) := fun t w' ho => ho.cellOf (gcell w t 0)
      go_enter Try.func12, Try.ntmps12
      go_wp2_with (go_at_call 10; refine (HC.out _).mono ?_; rintro e w1 ⟨rfl, ho1⟩; have cf := HF.out _ _ ho1)
      go_ret2
      exact ⟨by rw [HE.out, HB.out]; simp [IntKind.wrap_u64] <;> omega, (HW.out _).trans ho1⟩

theorem rback_any (P Q G H x : Int) (a : Option Addr) (n cap : Nat) (w : World) (q0 : 0 ≤ Q) (q1 : Q ≤ 18446744073709551615) (x0 : 0 ≤ x) (x1 : x ≤ 18446744073709551615) :
    Calls Try.prog 14 #[gv P Q G H a n cap, .int .u64 x] w fun e w' => e = .returned (.tuple #[.int .u64 (backI P Q x), .bool (inI P Q x)]) ∧ Old w w' := by
  have HW : Hid (∀ o, Old w (w.alloc o)) := fun o => (Old.refl w).alloc o
  have HC : Hid (∀ wx, Calls Try.prog 10 #[gv P Q G H a n cap, .int .u64 x] wx fun e w' => e = .returned (.bool (inI P Q x)) ∧ Old wx w') := fun wx => rin_any P Q G H x a n cap wx q0 q1 x1
  have HF : Hid (∀ t w', Old (w.alloc (.cells #[.int .u64 P, .int .u64 Q, .int .u64 G, .int .u64 H, .slice a n cap] t)) w' → w'.cell? ⟨w.heap.size, 0, none⟩ = some (.int .u64 P) ∧ w'.cell? ⟨w.heap.size, 1, none⟩ = some (.int .u64 Q)) := fun t w' ho => ⟨ho.cellOf (gcell w t 0), ho.cellOf (gcell w t 1)⟩
  cases hi : inI P Q x with
  | false =>
    have HE : Hid (backI P Q x = 0) := by unfold Hid backI; simp [hi]
    rw [hi] at HC
    clear hi
    go_enter Try.func14, Try.ntmps14
    go_wp2_with (go_at_call 10; refine (HC.out _).mono ?_; rintro e w1 ⟨rfl, ho1⟩)
    go_ret2
    exact ⟨by rw [HE.out]; rfl, (HW.out _).trans ho1⟩
  | true =>
    have hx1 := (inI_iff.1 hi).1
    rw [hi] at HC
    by_cases hx : x ≤ Q
    · have HE : Hid (backI P Q x = x - 1) := by unfold Hid backI; simp [hi, hx]
      clear hi
      go_enter Try.func14, Try.ntmps14
      go_wp2_with (go_at_call 10; refine (HC.out _).mono ?_; rintro e w1 ⟨rfl, ho1⟩; obtain ⟨cf, cg⟩ := HF.out _ _ ho1)
      go_ret2
      exact ⟨by rw [HE.out]; rfl, (HW.out _).trans ho1⟩
    · have HE : Hid (backI P Q x = (P - x - 1) % 18446744073709551616) := by unfold Hid backI; simp [hi, hx]
      clear hi
      go_enter Try.func14, Try.ntmps14
      go_wp2_with (go_at_call 10; refine (HC.out _).mono ?_; rintro e w1 ⟨rfl, ho1⟩; obtain ⟨cf, cg⟩ := HF.out _ _ ho1)
      go_ret2
      exact ⟨by rw [HE.out]; simp [IntKind.wrap_u64] <;> omega, (HW.out _).trans ho1⟩

def expI (P Q x e : Int) : Int := if Q < 2 then 0 else powI x (e % Q) P
end Go.Proofs.Ytljfjjfckepkdac
