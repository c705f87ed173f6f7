/-
  Proved: for every input PrimeFermat returns true, and its arguments read afterwards as they read before; no conditions.
-/
import Derived.Test.YtjfblojegjheeabRows
import Derived.Test.YtjfblojegjheeabAwake
import Derived.Test.YtjfblojegjheeabOpen
import Derived.Test.YtjfblojegjheeabInvs
import Derived.WalkKit
import Derived.ProofKit
import Derived.OpenShut
import Derived.ShutString
import Derived.ChangeOld
import Derived.Below
namespace Go.Proofs.Ytjfblojegjheeab.primeFermat
open Go.Proofs.Ytjfblojegjheeab Go.ChangeShapes Go.WideShapes Go.ChangeAt Go.RowKit
set_option linter.unusedVariables false

theorem own : ownKnob Try.prog.godebug = none := by kernel_rfl
theorem laidOut : laidOutB Try.prog = true := by kernel_rfl

set_option maxHeartbeats 1000000 in
theorem walk (a : Option Addr) (n cap : Nat) (N A : Nat → Int) (FA : Nat → Option Addr) (L C : Nat → Nat) (F : Nat → Nat → Int) (x1 : Int) (x2 : Int) (w : World) (hcap : n ≤ cap) (hin : RowsIn w a n N A FA L C F) (w1 : (Lit.int .u64 x1).wf = true) (w2 : (Lit.int .u64 x2).wf = true) :
    Calls Try.prog 4 #[.slice a n cap, .int .u64 x1, .int .u64 x2] w fun e w' => e = .returned (.bool true) ∧ Below w.heap.size w w' := by
  obtain ⟨x0, x3⟩ := bounds_u64 w1
  obtain ⟨y0, y1⟩ := bounds_u64 w2
  clear w1 w2
  have HI : Hid (RowsIn w a n N A FA L C F) := hin
  have HA : Hid (∀ i, i < n → 0 ≤ A i) := hin.a0
  clear hin
  cases hs : smallB L n
  · go_enter Try.func4, Try.ntmps4
    go_wp2_with (first
      | (go_at_call 6; refine (awake2_any _).mono ?_; rintro e w1 ⟨rfl, hb1⟩)
      | (go_at_call 7; refine (small_any _ _ _ N A FA L C F _ (HI.out.below hb1)).mono ?_; rintro e w2 ⟨rfl, hb2⟩))
    go_ret
    exact ⟨rfl, below_then hb1 hb2⟩
  have hn : n ≤ 80 := (smallB_iff.1 hs).1
  cases hp : provedB N A F L n x1
  · go_enter Try.func4, Try.ntmps4
    go_wp2_with (first
      | (go_at_call 6; refine (awake2_any _).mono ?_; rintro e w1 ⟨rfl, hb1⟩)
      | (go_at_call 7; refine (small_any _ _ _ N A FA L C F _ (HI.out.below hb1)).mono ?_; rintro e w2 ⟨rfl, hb2⟩)
      | (go_at_call 8; refine (proved_any _ _ _ _ N A FA L C F _ x0 x3 hcap hn (HI.out.below (below_then hb1 hb2))).mono ?_; rintro e w3 ⟨rfl, hb3⟩))
    go_ret
    exact ⟨rfl, below_then (below_then hb1 hb2) hb3⟩
  have ⟨t0, t1, t2, t3⟩ := fermat_all (y := x2) HA.out hp y0
  by_cases hz : x2 % x1 = 0
  · have hq := t2 hz
    clear t2 t3
    go_enter Try.func4, Try.ntmps4
    go_wp2_with (first
      | (go_at_call 6; refine (awake2_any _).mono ?_; rintro e w1 ⟨rfl, hb1⟩)
      | (go_at_call 7; refine (small_any _ _ _ N A FA L C F _ (HI.out.below hb1)).mono ?_; rintro e w2 ⟨rfl, hb2⟩)
      | (go_at_call 8; refine (proved_any _ _ _ _ N A FA L C F _ x0 x3 hcap hn (HI.out.below (below_then hb1 hb2))).mono ?_; rintro e w3 ⟨rfl, hb3⟩)
      | (go_at_call 9; refine (pow_any _ _ _ _ y0 y1 (by omega) (by omega)).mono ?_; rintro e w4 ⟨rfl, hd⟩))
    go_ret
    exact ⟨rfl, below_then (below_then (below_then hb1 hb2) hb3) (below_draws hd)⟩
  · obtain ⟨hq1, hq2, hq3⟩ := t3 hz
    obtain ⟨i0, i1⟩ := invI_bd x2 x1
    clear t2 t3
    go_enter Try.func4, Try.ntmps4
    go_wp2_with (first
      | (go_at_call 6; refine (awake2_any _).mono ?_; rintro e w1 ⟨rfl, hb1⟩)
      | (go_at_call 7; refine (small_any _ _ _ N A FA L C F _ (HI.out.below hb1)).mono ?_; rintro e w2 ⟨rfl, hb2⟩)
      | (go_at_call 8; refine (proved_any _ _ _ _ N A FA L C F _ x0 x3 hcap hn (HI.out.below (below_then hb1 hb2))).mono ?_; rintro e w3 ⟨rfl, hb3⟩)
      | (go_at_call 10; refine (inv_any _ _ _ y0 y1).mono ?_; rintro e w4 ⟨rfl, hd1⟩)
      | (go_at_call 9; refine (pow_any _ _ _ _ y0 y1 (by omega) (by omega)).mono ?_; rintro e w5 ⟨rfl, hd2⟩)
      | (go_at_call 11; refine (mul_any _ _ _ _ y0 y1 i0 (by omega)).mono ?_; rintro e w6 ⟨rfl, hd3⟩))
    go_ret
    exact ⟨rfl, below_then (below_then (below_then hb1 hb2) hb3) (below_draws (drawn_trans (drawn_trans hd1 hd2) hd3))⟩

set_option maxRecDepth 100000 in
theorem lifted (os : Os) (started : os.Started) (H : Type) (enc : TypeId × Value → H) :
    ReturnsInHanded {} Try.checked os 4 .any (Rows.primeFermatSpec.pre6 enc Try.prog Try.f4 Rows.primeFermatRow.domain false) (Rows.primeFermatSpec.post enc Try.prog Try.f4 false true false false) := by
  refine returnsInHanded_of_change (C := Try.checked) own started (by kernel_rfl) Try.func4
    (ChangeSpec.witness6 (enc := enc) (C := Try.checked) false ⟨#[], #[.slice none 0 0, .int .u64 0, .int .u64 0], []⟩ 8 (by kernel_rfl) (by kernel_rfl) (by kernel_rfl) (by kernel_rfl)) ?_
  intro W base args ds gs before hval0 hW hcnd _
  have hval : ∀ (j : Nat) t v, Try.f4.params[j]? = some t → args[j]? = some v → Value.okWide Try.prog W .any base t v := hval0
  have hW' := hW
  obtain ⟨p, q, hA0, hV, rfl, hfz, hnd⟩ := hW
  have hA : DataW.TrodAll enc Try.prog W 0 (fun _ => true) true Try.f4.params.toList args.toList ds p := hA0
  rw [Try.params4] at hA hval
  obtain ⟨v0, vs0, d0, ds0, p0, q0, hargs, rfl, rfl, h0, r0⟩ := trodAll_cons hA
  obtain ⟨v1, vs1, d1, ds1, p1, q1, rfl, rfl, rfl, h1, r1⟩ := trodAll_cons r0
  obtain ⟨v2, vs2, d2, ds2, p2, q2, rfl, rfl, rfl, h2, r2⟩ := trodAll_cons r1
  obtain ⟨rfl, rfl, rfl⟩ := trodAll_nil r2
  obtain rfl : args = #[v0, v1, v2] := by cases args; simp_all
  obtain ⟨rfl, rfl⟩ := trodVars_none hV
  obtain ⟨a, n, cap, rfl⟩ := okWide_slice Try.underlying22 (hval 0 22 v0 rfl rfl)
  have k0 := h0
  have lt0 : ∀ x ∈ p0, x.block < W.heap.size := by obtain ⟨m, hm⟩ := k0; exact DataW.trod_lt m _ _ _ hm
  obtain ⟨hcap, N, A, FA, L, C, F, hin⟩ := open_rows Try.underlying22 Try.underlying35 Try.underlying23 Try.underlying33 rfl rfl rfl rfl rfl rfl (by kernel_rfl) (by kernel_rfl) (by kernel_rfl) h0
  obtain ⟨x1, rfl, rfl, rfl, w1⟩ := open_int Try.underlying23 (hval 1 23 v1 rfl rfl) h1
  obtain ⟨x2, rfl, rfl, rfl, w2⟩ := open_int Try.underlying23 (hval 2 23 v2 rfl rfl) h2
  clear hA0 hval0
  refine (walk a n cap N A FA L C F x1 x2 W hcap hin w1 w2).mono fun e W' ⟨he, bel⟩ => ?_
  subst he
  exact ⟨_, rfl, _, _, _, [], _, [], hW', trodAll_mk1 (shut_bool Try.underlying4 _), (trodAll_cons_mk (Below.trod laidOut (by kernel_rfl) (of_decide_eq_true (by kernel_rfl)) k0 bel lt0) (trodAll_cons_mk (shut_int Try.underlying23 w1) (trodAll_cons_mk (shut_int Try.underlying23 w2) trodAll_mk0))), rfl, bel.frame _, fun h => by cases h⟩

theorem over : Rows.primeFermatRow.holds Try.pinned (OpenSpec.ofChange Rows.primeFermatSpec) :=
  OpenClaim.holds_of_wide 4 Try.f4 rfl rfl rfl rfl rfl rfl rfl ⟨rfl, rfl, rfl, rfl, rfl⟩ rfl rfl rfl rfl rfl (by kernel_rfl) Try.func4 (by kernel_rfl)
    (of_decide_eq_true (by kernel_rfl)) (by unfold Func.isWrapper; first | (rw [if_pos (by decide +kernel)]; kernel_rfl) | (rw [if_neg (by decide +kernel)]; exact ⟨rfl, rfl⟩))
    (fun os started H enc _ => lifted os started H enc)

end Go.Proofs.Ytjfblojegjheeab.primeFermat

namespace Go.Proofs.Ytjfblojegjheeab
theorem primeFermat_holds : Rows.PrimeFermatSaid := primeFermat.over
#print axioms primeFermat_holds
end Go.Proofs.Ytjfblojegjheeab
