/-
  Proved: for every input PrimeTrue returns true, and its arguments read afterwards as they read before; no conditions.
-/
import Derived.Test.YtjfblojegjheeabRows
import Derived.Test.YtjfblojegjheeabAwake
import Derived.Test.YtjfblojegjheeabOpen
import Derived.WalkKit
import Derived.ProofKit
import Derived.OpenShut
import Derived.ShutString
import Derived.ChangeOld
import Derived.Below
namespace Go.Proofs.Ytjfblojegjheeab.primeTrue
open Go.Proofs.Ytjfblojegjheeab Go.ChangeShapes Go.WideShapes Go.ChangeAt Go.RowKit
set_option linter.unusedVariables false

theorem own : ownKnob Try.prog.godebug = none := by kernel_rfl
theorem laidOut : laidOutB Try.prog = true := by kernel_rfl

set_option maxHeartbeats 1000000 in
theorem walk (a : Option Addr) (n cap : Nat) (N A : Nat → Int) (FA : Nat → Option Addr) (L C : Nat → Nat) (F : Nat → Nat → Int) (x1 : Int) (w : World) (hcap : n ≤ cap) (hin : RowsIn w a n N A FA L C F) (w1 : (Lit.int .u64 x1).wf = true) :
    Calls Try.prog 3 #[.slice a n cap, .int .u64 x1] w fun e w' => e = .returned (.bool true) ∧ Below w.heap.size w w' := by
  obtain ⟨x0, x2⟩ := bounds_u64 w1
  clear w1
  have HI : Hid (RowsIn w a n N A FA L C F) := hin
  have HA : Hid (∀ i, i < n → 0 ≤ A i) := hin.a0
  clear hin
  cases hs : smallB L n
  · go_enter Try.func3, Try.ntmps3
    go_wp2_with (first
      | (go_at_call 6; refine (awake2_any _).mono ?_; rintro e w1 ⟨rfl, hb1⟩)
      | (go_at_call 7; refine (small_any _ _ _ N A FA L C F _ (HI.out.below hb1)).mono ?_; rintro e w2 ⟨rfl, hb2⟩))
    go_ret
    exact ⟨rfl, below_then hb1 hb2⟩
  have hn : n ≤ 80 := (smallB_iff.1 hs).1
  by_cases hx : 10000000 < x1
  · go_enter Try.func3, Try.ntmps3
    go_wp2_with (first
      | (go_at_call 6; refine (awake2_any _).mono ?_; rintro e w1 ⟨rfl, hb1⟩)
      | (go_at_call 7; refine (small_any _ _ _ N A FA L C F _ (HI.out.below hb1)).mono ?_; rintro e w2 ⟨rfl, hb2⟩))
    go_ret
    exact ⟨rfl, below_then hb1 hb2⟩
  cases hp : provedB N A F L n x1
  · go_enter Try.func3, Try.ntmps3
    go_wp2_with (first
      | (go_at_call 6; refine (awake2_any _).mono ?_; rintro e w1 ⟨rfl, hb1⟩)
      | (go_at_call 7; refine (small_any _ _ _ N A FA L C F _ (HI.out.below hb1)).mono ?_; rintro e w2 ⟨rfl, hb2⟩)
      | (go_at_call 8; refine (proved_any _ _ _ _ N A FA L C F _ x0 x2 hcap hn (HI.out.below (below_then hb1 hb2))).mono ?_; rintro e w3 ⟨rfl, hb3⟩))
    go_ret
    exact ⟨rfl, below_then (below_then hb1 hb2) hb3⟩
  have ⟨t0, t1⟩ := true_all HA.out hp
  have HT : Hid (∀ d : Int, 2 ≤ d → d * d ≤ x1 → x1 % d ≠ 0) := t1
  clear t1
  go_enter Try.func3, Try.ntmps3
  go_wp2_with (first
    | (go_at_call 6; refine (awake2_any _).mono ?_; rintro e w1 ⟨rfl, hb1⟩)
    | (go_at_call 7; refine (small_any _ _ _ N A FA L C F _ (HI.out.below hb1)).mono ?_; rintro e w2 ⟨rfl, hb2⟩)
    | (go_at_call 8; refine (proved_any _ _ _ _ N A FA L C F _ x0 x2 hcap hn (HI.out.below (below_then hb1 hb2))).mono ?_; rintro e w3 ⟨rfl, hb3⟩))
  go_loop [5] (fun dv => ∃ d : Int, dv = .int .u64 d ∧ 2 ≤ d ∧ d ≤ 10000) (fun dv => (10001 - intOf dv).toNat)
  case atStart => exact ⟨2, rfl, by omega, by omega⟩
  case round =>
    obtain ⟨d, rfl, d0, d1⟩ := hrel
    obtain ⟨q0, q1⟩ := sq_bd d0 d1
    by_cases hle : d * d ≤ x1
    · have hd := root_bd hle (by omega)
      have hz := HT.out d d0 hle
      go_wp2_with fail
      go_round
      case rel => exact ⟨d + 1, rfl, by omega, by omega⟩
      case measure => simp [intOf]; omega
    · go_wp2_with fail
      go_ret
      exact ⟨rfl, below_then (below_then hb1 hb2) hb3⟩

set_option maxRecDepth 100000 in
theorem lifted (os : Os) (started : os.Started) (H : Type) (enc : TypeId × Value → H) :
    ReturnsInHanded {} Try.checked os 3 .any (Rows.primeTrueSpec.pre6 enc Try.prog Try.f3 Rows.primeTrueRow.domain false) (Rows.primeTrueSpec.post enc Try.prog Try.f3 false true false false) := by
  refine returnsInHanded_of_change (C := Try.checked) own started (by kernel_rfl) Try.func3
    (ChangeSpec.witness6 (enc := enc) (C := Try.checked) false ⟨#[], #[.slice none 0 0, .int .u64 0], []⟩ 8 (by kernel_rfl) (by kernel_rfl) (by kernel_rfl) (by kernel_rfl)) ?_
  intro W base args ds gs before hval0 hW hcnd _
  have hval : ∀ (j : Nat) t v, Try.f3.params[j]? = some t → args[j]? = some v → Value.okWide Try.prog W .any base t v := hval0
  have hW' := hW
  obtain ⟨p, q, hA0, hV, rfl, hfz, hnd⟩ := hW
  have hA : DataW.TrodAll enc Try.prog W 0 (fun _ => true) true Try.f3.params.toList args.toList ds p := hA0
  rw [Try.params3] at hA hval
  obtain ⟨v0, vs0, d0, ds0, p0, q0, hargs, rfl, rfl, h0, r0⟩ := trodAll_cons hA
  obtain ⟨v1, vs1, d1, ds1, p1, q1, rfl, rfl, rfl, h1, r1⟩ := trodAll_cons r0
  obtain ⟨rfl, rfl, rfl⟩ := trodAll_nil r1
  obtain rfl : args = #[v0, v1] := by cases args; simp_all
  obtain ⟨rfl, rfl⟩ := trodVars_none hV
  obtain ⟨a, n, cap, rfl⟩ := okWide_slice Try.underlying22 (hval 0 22 v0 rfl rfl)
  have k0 := h0
  have lt0 : ∀ x ∈ p0, x.block < W.heap.size := by obtain ⟨m, hm⟩ := k0; exact DataW.trod_lt m _ _ _ hm
  obtain ⟨hcap, N, A, FA, L, C, F, hin⟩ := open_rows Try.underlying22 Try.underlying35 Try.underlying23 Try.underlying33 rfl rfl rfl rfl rfl rfl (by kernel_rfl) (by kernel_rfl) (by kernel_rfl) h0
  obtain ⟨x1, rfl, rfl, rfl, w1⟩ := open_int Try.underlying23 (hval 1 23 v1 rfl rfl) h1
  clear hA0 hval0
  refine (walk a n cap N A FA L C F x1 W hcap hin w1).mono fun e W' ⟨he, bel⟩ => ?_
  subst he
  exact ⟨_, rfl, _, _, _, [], _, [], hW', trodAll_mk1 (shut_bool Try.underlying4 _), (trodAll_cons_mk (Below.trod laidOut (by kernel_rfl) (of_decide_eq_true (by kernel_rfl)) k0 bel lt0) (trodAll_cons_mk (shut_int Try.underlying23 w1) trodAll_mk0)), rfl, bel.frame _, fun h => by cases h⟩

theorem over : Rows.primeTrueRow.holds Try.pinned (OpenSpec.ofChange Rows.primeTrueSpec) :=
  OpenClaim.holds_of_wide 3 Try.f3 rfl rfl rfl rfl rfl rfl rfl ⟨rfl, rfl, rfl, rfl, rfl⟩ rfl rfl rfl rfl rfl (by kernel_rfl) Try.func3 (by kernel_rfl)
    (of_decide_eq_true (by kernel_rfl)) (by unfold Func.isWrapper; first | (rw [if_pos (by decide +kernel)]; kernel_rfl) | (rw [if_neg (by decide +kernel)]; exact ⟨rfl, rfl⟩))
    (fun os started H enc _ => lifted os started H enc)

end Go.Proofs.Ytjfblojegjheeab.primeTrue

namespace Go.Proofs.Ytjfblojegjheeab
theorem primeTrue_holds : Rows.PrimeTrueSaid := primeTrue.over
#print axioms primeTrue_holds
end Go.Proofs.Ytjfblojegjheeab
