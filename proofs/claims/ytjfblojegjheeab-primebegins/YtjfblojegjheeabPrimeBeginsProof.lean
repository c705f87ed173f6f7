/-
  Proved: for every input PrimeBegins returns true, and its arguments read afterwards as they read before; no conditions.
-/
import Derived.Test.YtjfblojegjheeabRows
import Derived.Test.YtjfblojegjheeabAwake
import Derived.Test.YtjfblojegjheeabOpen
import Derived.WalkKit
import Derived.ProofKit
import Derived.OpenShut
import Derived.ShutString
import Derived.ChangeOld
import Derived.Below
namespace Go.Proofs.Ytjfblojegjheeab.primeBegins
open Go.Proofs.Ytjfblojegjheeab Go.ChangeShapes Go.WideShapes Go.ChangeAt Go.RowKit
set_option linter.unusedVariables false

theorem own : ownKnob Try.prog.godebug = none := by kernel_rfl
theorem laidOut : laidOutB Try.prog = true := by kernel_rfl

set_option maxHeartbeats 1000000 in
theorem walk (a : Option Addr) (n cap : Nat) (N A : Nat → Int) (FA : Nat → Option Addr) (L C : Nat → Nat) (F : Nat → Nat → Int) (x1 : Int) (x2 : Int) (w : World) (hcap : n ≤ cap) (hin : RowsIn w a n N A FA L C F) (w1 : (Lit.int .u64 x1).wf = true) (w2 : (Lit.int .i64 x2).wf = true) :
    Calls Try.prog 5 #[.slice a n cap, .int .u64 x1, .int .i64 x2] w fun e w' => e = .returned (.bool true) ∧ Below w.heap.size w w' := by
  obtain ⟨x0, x3⟩ := bounds_u64 w1
  obtain ⟨y0, y1⟩ := bounds_i64 w2
  clear w1 w2
  have HI : Hid (RowsIn w a n N A FA L C F) := hin
  clear hin
  cases hs : smallB L n
  · go_enter Try.func5, Try.ntmps5
    go_wp2_with (first
      | (go_at_call 6; refine (awake2_any _).mono ?_; rintro e w1 ⟨rfl, hb1⟩)
      | (go_at_call 7; refine (small_any _ _ _ N A FA L C F _ (HI.out.below hb1)).mono ?_; rintro e w2 ⟨rfl, hb2⟩))
    go_ret
    exact ⟨rfl, below_then hb1 hb2⟩
  have hn : n ≤ 80 := (smallB_iff.1 hs).1
  by_cases hk0 : x2 < 0
  · go_enter Try.func5, Try.ntmps5
    go_wp2_with (first
      | (go_at_call 6; refine (awake2_any _).mono ?_; rintro e w1 ⟨rfl, hb1⟩)
      | (go_at_call 7; refine (small_any _ _ _ N A FA L C F _ (HI.out.below hb1)).mono ?_; rintro e w2 ⟨rfl, hb2⟩))
    go_ret
    exact ⟨rfl, below_then hb1 hb2⟩
  obtain ⟨k, rfl⟩ := Int.eq_ofNat_of_zero_le (show 0 ≤ x2 by omega)
  by_cases hkn : n < k
  · go_enter Try.func5, Try.ntmps5
    go_wp2_with (first
      | (go_at_call 6; refine (awake2_any _).mono ?_; rintro e w1 ⟨rfl, hb1⟩)
      | (go_at_call 7; refine (small_any _ _ _ N A FA L C F _ (HI.out.below hb1)).mono ?_; rintro e w2 ⟨rfl, hb2⟩))
    go_ret
    exact ⟨rfl, below_then hb1 hb2⟩
  cases hp : holdsB N A F L n
  · go_enter Try.func5, Try.ntmps5
    go_wp2_with (first
      | (go_at_call 6; refine (awake2_any _).mono ?_; rintro e w1 ⟨rfl, hb1⟩)
      | (go_at_call 7; refine (small_any _ _ _ N A FA L C F _ (HI.out.below hb1)).mono ?_; rintro e w2 ⟨rfl, hb2⟩)
      | (go_at_call 12; refine (holds_any _ _ _ N A FA L C F _ hcap hn (HI.out.below (below_then hb1 hb2))).mono ?_; rintro e w3 ⟨rfl, hb3⟩))
    go_ret
    exact ⟨rfl, below_then (below_then hb1 hb2) hb3⟩
  have hq := holds_begin hp (show k ≤ n by omega)
  have HQ : Hid (provedB N A F L k x1 = true → provedB N A F L n x1 = true) := proved_begin hp (by omega)
  have HJ : Hid (RowsIn w a k N A FA L C F) := HI.out.take (by omega)
  cases hr : provedB N A F L k x1
  · go_enter Try.func5, Try.ntmps5
    go_wp2_with (first
      | (go_at_call 6; refine (awake2_any _).mono ?_; rintro e w1 ⟨rfl, hb1⟩)
      | (go_at_call 7; refine (small_any _ _ _ N A FA L C F _ (HI.out.below hb1)).mono ?_; rintro e w2 ⟨rfl, hb2⟩)
      | (go_at_call_of 12 (Value.slice a n cap); refine (holds_any _ _ _ N A FA L C F _ hcap hn (HI.out.below (below_then hb1 hb2))).mono ?_; rintro e w3 ⟨rfl, hb3⟩; have hc3 := below_then (below_then hb1 hb2) hb3)
      | (go_at_call_of 12 (Value.slice a k cap); refine (holds_any _ _ _ N A FA L C F _ (by omega) (by omega) (HJ.out.below hc3)).mono ?_; rintro e w4 ⟨rfl, hb4⟩; have hc4 := below_then hc3 hb4)
      | (go_at_call_of 8 (Value.slice a k cap); refine (proved_any _ _ _ _ N A FA L C F _ x0 x3 (by omega) (by omega) (HJ.out.below hc4)).mono ?_; rintro e w5 ⟨rfl, hb5⟩; have hc5 := below_then hc4 hb5))
    go_ret
    exact ⟨rfl, hc5⟩
  · have ht := HQ.out hr
    go_enter Try.func5, Try.ntmps5
    by_cases hkk : k = n
    · subst hkk
      go_wp2_with (first
        | (go_at_call 6; refine (awake2_any _).mono ?_; rintro e w1 ⟨rfl, hb1⟩)
        | (go_at_call 7; refine (small_any _ _ _ N A FA L C F _ (HI.out.below hb1)).mono ?_; rintro e w2 ⟨rfl, hb2⟩; have hc := below_then hb1 hb2; clear hb1 hb2)
        | (go_at_call 12; refine (holds_any _ _ _ N A FA L C F _ hcap hn (HI.out.below hc)).mono ?_; rintro e w3 ⟨rfl, hb3⟩; have hc' := below_then hc hb3; clear hb3 hc; have hc := hc'; clear hc')
        | (go_at_call 8; refine (proved_any _ _ _ _ N A FA L C F _ x0 x3 hcap hn (HI.out.below hc)).mono ?_; rintro e w5 ⟨rfl, hb5⟩; have hc' := below_then hc hb5; clear hb5 hc; have hc := hc'; clear hc'))
      go_ret
      exact ⟨rfl, hc⟩
    · go_wp2_with (first
        | (go_at_call 6; refine (awake2_any _).mono ?_; rintro e w1 ⟨rfl, hb1⟩)
        | (go_at_call 7; refine (small_any _ _ _ N A FA L C F _ (HI.out.below hb1)).mono ?_; rintro e w2 ⟨rfl, hb2⟩)
        | (go_at_call_of 12 (Value.slice a n cap); refine (holds_any _ _ _ N A FA L C F _ hcap hn (HI.out.below (below_then hb1 hb2))).mono ?_; rintro e w3 ⟨rfl, hb3⟩; have hc3 := below_then (below_then hb1 hb2) hb3)
        | (go_at_call_of 12 (Value.slice a k cap); refine (holds_any _ _ _ N A FA L C F _ (by omega) (by omega) (HJ.out.below hc3)).mono ?_; rintro e w4 ⟨rfl, hb4⟩; have hc4 := below_then hc3 hb4)
        | (go_at_call_of 8 (Value.slice a k cap); refine (proved_any _ _ _ _ N A FA L C F _ x0 x3 (by omega) (by omega) (HJ.out.below hc4)).mono ?_; rintro e w5 ⟨rfl, hb5⟩; have hc5 := below_then hc4 hb5)
        | (go_at_call_of 8 (Value.slice a n cap); refine (proved_any _ _ _ _ N A FA L C F _ x0 x3 hcap hn (HI.out.below hc5)).mono ?_; rintro e w6 ⟨rfl, hb6⟩))
      go_ret
      exact ⟨rfl, below_then hc5 hb6⟩

set_option maxRecDepth 100000 in
theorem lifted (os : Os) (started : os.Started) (H : Type) (enc : TypeId × Value → H) :
    ReturnsInHanded {} Try.checked os 5 .any (Rows.primeBeginsSpec.pre6 enc Try.prog Try.f5 Rows.primeBeginsRow.domain false) (Rows.primeBeginsSpec.post enc Try.prog Try.f5 false true false false) := by
  refine returnsInHanded_of_change (C := Try.checked) own started (by kernel_rfl) Try.func5
    (ChangeSpec.witness6 (enc := enc) (C := Try.checked) false ⟨#[], #[.slice none 0 0, .int .u64 0, .int .i64 0], []⟩ 8 (by kernel_rfl) (by kernel_rfl) (by kernel_rfl) (by kernel_rfl)) ?_
  intro W base args ds gs before hval0 hW hcnd _
  have hval : ∀ (j : Nat) t v, Try.f5.params[j]? = some t → args[j]? = some v → Value.okWide Try.prog W .any base t v := hval0
  have hW' := hW
  obtain ⟨p, q, hA0, hV, rfl, hfz, hnd⟩ := hW
  have hA : DataW.TrodAll enc Try.prog W 0 (fun _ => true) true Try.f5.params.toList args.toList ds p := hA0
  rw [Try.params5] at hA hval
  obtain ⟨v0, vs0, d0, ds0, p0, q0, hargs, rfl, rfl, h0, r0⟩ := trodAll_cons hA
  obtain ⟨v1, vs1, d1, ds1, p1, q1, rfl, rfl, rfl, h1, r1⟩ := trodAll_cons r0
  obtain ⟨v2, vs2, d2, ds2, p2, q2, rfl, rfl, rfl, h2, r2⟩ := trodAll_cons r1
  obtain ⟨rfl, rfl, rfl⟩ := trodAll_nil r2
  obtain rfl : args = #[v0, v1, v2] := by cases args; simp_all
  obtain ⟨rfl, rfl⟩ := trodVars_none hV
  obtain ⟨a, n, cap, rfl⟩ := okWide_slice Try.underlying22 (hval 0 22 v0 rfl rfl)
  have k0 := h0
  have lt0 : ∀ x ∈ p0, x.block < W.heap.size := by obtain ⟨m, hm⟩ := k0; exact DataW.trod_lt m _ _ _ hm
  obtain ⟨hcap, N, A, FA, L, C, F, hin⟩ := open_rows Try.underlying22 Try.underlying35 Try.underlying23 Try.underlying33 rfl rfl rfl rfl rfl rfl (by kernel_rfl) (by kernel_rfl) (by kernel_rfl) h0
  obtain ⟨x1, rfl, rfl, rfl, w1⟩ := open_int Try.underlying23 (hval 1 23 v1 rfl rfl) h1
  obtain ⟨x2, rfl, rfl, rfl, w2⟩ := open_int Try.underlying3 (hval 2 3 v2 rfl rfl) h2
  clear hA0 hval0
  refine (walk a n cap N A FA L C F x1 x2 W hcap hin w1 w2).mono fun e W' ⟨he, bel⟩ => ?_
  subst he
  exact ⟨_, rfl, _, _, _, [], _, [], hW', trodAll_mk1 (shut_bool Try.underlying4 _), (trodAll_cons_mk (Below.trod laidOut (by kernel_rfl) (of_decide_eq_true (by kernel_rfl)) k0 bel lt0) (trodAll_cons_mk (shut_int Try.underlying23 w1) (trodAll_cons_mk (shut_int Try.underlying3 w2) trodAll_mk0))), rfl, bel.frame _, fun h => by cases h⟩

theorem over : Rows.primeBeginsRow.holds Try.pinned (OpenSpec.ofChange Rows.primeBeginsSpec) :=
  OpenClaim.holds_of_wide 5 Try.f5 rfl rfl rfl rfl rfl rfl rfl ⟨rfl, rfl, rfl, rfl, rfl⟩ rfl rfl rfl rfl rfl (by kernel_rfl) Try.func5 (by kernel_rfl)
    (of_decide_eq_true (by kernel_rfl)) (by unfold Func.isWrapper; first | (rw [if_pos (by decide +kernel)]; kernel_rfl) | (rw [if_neg (by decide +kernel)]; exact ⟨rfl, rfl⟩))
    (fun os started H enc _ => lifted os started H enc)

end Go.Proofs.Ytjfblojegjheeab.primeBegins

namespace Go.Proofs.Ytjfblojegjheeab
theorem primeBegins_holds : Rows.PrimeBeginsSaid := primeBegins.over
#print axioms primeBegins_holds
end Go.Proofs.Ytjfblojegjheeab
