/-
  The statements' awake of layer 2 answers true.
-/
import Derived.Test.YtjfblojegjheeabHolds
namespace Go.Proofs.Ytjfblojegjheeab
open Go.RowKit

def aN : Nat → Int | 0 => 3 | _ => 7
def aA : Nat → Int | 0 => 2 | _ => 3
def aL : Nat → Nat | 0 => 1 | _ => 2
def aF : Nat → Nat → Int | _, 0 => 2 | _, _ => 3
def aP (k : Nat) : Nat → Option Addr | 0 => some ⟨k, 0, none⟩ | _ => some ⟨k + 1, 0, none⟩

/-- The world with the three blocks that awake lays. -/
def aW (w : World) (t t' : TypeId) : World := ((w.alloc (.cells #[.int .u64 2] t)).alloc (.cells #[.int .u64 2, .int .u64 3] t)).alloc
  (.cells #[.int .u64 3, .int .u64 2, .slice (some ⟨w.heap.size, 0, none⟩) 1 1, .int .u64 7, .int .u64 3, .slice (some ⟨w.heap.size + 1, 0, none⟩) 2 2] t')

theorem aW_below (w : World) (t t' : TypeId) : Below w.heap.size w (aW w t t') := below_new (below_new (below_new (Below.refl _ _) _) _) _

theorem aW_size (w : World) (t t' : TypeId) : (aW w t t').heap.size = w.heap.size + 1 + 1 + 1 := by simp [aW]

theorem aW_top (w : World) (t t' : TypeId) (i : Nat) : (aW w t t').cell? ⟨w.heap.size + 1 + 1, i, none⟩ = (#[.int .u64 3, .int .u64 2, .slice (some ⟨w.heap.size, 0, none⟩) 1 1, .int .u64 7, .int .u64 3, .slice (some ⟨w.heap.size + 1, 0, none⟩) 2 2] : Array Value)[i]? := by
  unfold aW
  rw [World.cell?_alloc_at _ _ _ _ (by simp)]
theorem aW_one (w : World) (t t' : TypeId) (i : Nat) : (aW w t t').cell? ⟨w.heap.size + 1, i, none⟩ = (#[.int .u64 2, .int .u64 3] : Array Value)[i]? := by
  unfold aW
  rw [World.cell?_alloc_past _ _ _ (by simp), World.cell?_alloc_at _ _ _ _ (by simp)]
theorem aW_zero (w : World) (t t' : TypeId) (i : Nat) : (aW w t t').cell? ⟨w.heap.size, i, none⟩ = (#[.int .u64 2] : Array Value)[i]? := by
  unfold aW
  rw [World.cell?_alloc_past _ _ _ (by simp; omega), World.cell?_alloc_past _ _ _ (by simp), World.cell?_alloc_at _ _ _ _ rfl]

theorem aW_rows (w : World) (t t' : TypeId) : RowsIn (aW w t t') (some ⟨w.heap.size + 1 + 1, 0, none⟩) 2 aN aA (aP w.heap.size) aL aL aF := by
  refine Or.inr ⟨_, _, rfl, by rw [aW_size]; omega, fun i hi => ?_⟩
  match i, hi with
  | 0, _ =>
    refine ⟨(aW_top ..).trans rfl, (aW_top ..).trans rfl, (aW_top ..).trans rfl, by decide, by decide, by decide, by decide, Nat.le_refl _, by decide, Or.inr ⟨_, _, rfl, by rw [aW_size]; omega, fun j hj => ?_⟩⟩
    match j, hj with
    | 0, _ => exact ⟨(aW_zero ..).trans rfl, by decide, by decide⟩
  | 1, _ =>
    refine ⟨(aW_top ..).trans rfl, (aW_top ..).trans rfl, (aW_top ..).trans rfl, by decide, by decide, by decide, by decide, Nat.le_refl _, by decide, Or.inr ⟨_, _, rfl, by rw [aW_size]; omega, fun j hj => ?_⟩⟩
    match j, hj with
    | 0, _ => exact ⟨(aW_one ..).trans rfl, by decide, by decide⟩
    | 1, _ => exact ⟨(aW_one ..).trans rfl, by decide, by decide⟩

theorem awake2_any (w : World) : Calls Try.prog 6 #[] w fun e w' => e = .returned (.bool true) ∧ Below w.heap.size w w' := by
  have e1 : holdsB aN aA aF aL 2 = true := by decide +kernel
  have e2 : provedB aN aA aF aL 2 7 = true := by decide +kernel
  have e3 : provedB aN aA aF aL 2 5 = false := by decide +kernel
  go_enter Try.func6, Try.ntmps6
  go_wp2_with (first
    | (go_at_call 12; refine (holds_any _ 2 2 aN aA _ aL aL aF _ (by omega) (by omega) (aW_rows w _ _)).mono ?_; rintro e w' ⟨rfl, hb⟩; have hb' := below_then (aW_below w _ _) hb; have HK : Hid (RowsIn w' _ 2 aN aA _ aL aL aF) := (aW_rows w _ _).below hb; clear hb)
    | (go_at_call_of 8 (Value.int IntKind.u64 7); refine (proved_any 7 _ 2 2 aN aA _ aL aL aF _ (by decide) (by decide) (by omega) (by omega) HK.out).mono ?_; rintro e w'' ⟨rfl, hb⟩; have hb'' := below_then hb' hb; have HK2 : Hid (RowsIn w'' _ 2 aN aA _ aL aL aF) := HK.out.below hb; clear hb)
    | (go_at_call_of 8 (Value.int IntKind.u64 5); refine (proved_any 5 _ 2 2 aN aA _ aL aL aF _ (by decide) (by decide) (by omega) (by omega) HK2.out).mono ?_; rintro e w3 ⟨rfl, hb3⟩))
  go_ret
  exact ⟨rfl, below_then hb'' hb3⟩

end Go.Proofs.Ytjfblojegjheeab
