/-
  Proved: for every input ModRules returns true, and its arguments read afterwards as they read before; no conditions.
-/
import Derived.Test.YtneopeckflfbaaaRows
import Derived.Test.YtneopeckflfbaaaInvs
import Derived.Deep.RegionWith
import Derived.WalkKit
import Derived.ProofKit
import Derived.OpenShut
namespace Go.Proofs.Ytneopeckflfbaaa.modRules
open Go.Proofs.Ytneopeckflfbaaa Go.ChangeShapes Go.WideShapes Go.ChangeAt Go.RowKit
set_option linter.unusedVariables false

theorem own : ownKnob Try.prog.godebug = none := by kernel_rfl

theorem walk (a0 : Int) (a1 : Int) (a2 : Int) (w0 : (Lit.int .u64 a0).wf = true) (w1 : (Lit.int .u64 a1).wf = true) (w2 : (Lit.int .u64 a2).wf = true) (w : World) :
    Calls Try.prog 7 #[.int .u64 a0, .int .u64 a1, .int .u64 a2] w fun e w' => e = .returned (.bool true) ∧ Grown w w' := by
  obtain ⟨p0, p1⟩ := bounds_u64 w0
  obtain ⟨q0, q1⟩ := bounds_u64 w1
  obtain ⟨c, hc, c0, c1⟩ := xor_is a0 a1 p0 p1 q0 q1
  cases hm : okM a2
  · have hn := okM_no hm
    have e1 := addI_no (a := a0) (b := a1) hm
    have e2 := subI_no (a := a0) (b := a1) hm
    have e3 := mulI_no (a := a0) (b := a1) hm
    have e4 := powI_no (a := a0) (e := a1) hm
    have C1 : Hid (∀ w, Calls Try.prog 9 #[.int .u64 a0, .int .u64 a1, .int .u64 a2] w fun e w' => e = .returned (.int .u64 0) ∧ ∃ n, w' = w.drewN n) := fun w => e1 ▸ add_any a0 a1 a2 w p0 p1 q0 q1
    have C2 : Hid (∀ w, Calls Try.prog 11 #[.int .u64 a0, .int .u64 a1, .int .u64 a2] w fun e w' => e = .returned (.int .u64 0) ∧ ∃ n, w' = w.drewN n) := fun w => e2 ▸ sub_any a0 a1 a2 w p0 p1 q0 q1
    have C3 : Hid (∀ w, Calls Try.prog 13 #[.int .u64 a0, .int .u64 a1, .int .u64 a2] w fun e w' => e = .returned (.int .u64 0) ∧ ∃ n, w' = w.drewN n) := fun w => e3 ▸ mul_any a0 a1 a2 w p0 p1 q0 q1
    have C4 : Hid (∀ w, Calls Try.prog 15 #[.int .u64 a0, .int .u64 a1, .int .u64 a2] w fun e w' => e = .returned (.int .u64 0) ∧ ∃ n, w' = w.drewN n) := fun w => e4 ▸ pow_any a0 a1 a2 w p0 p1 q0 q1
    have o0 : bits .or .u64 0 0 = 0 := by decide +kernel
    clear e1 e2 e3 e4 hm w0 w1 w2 hc c0 c1
    rcases hn with hn | hn
    · go_enter Try.func7, Try.ntmps7
      go_wp2_with (first | (go_at_call 8; refine (awake_any _).mono ?_; rintro e w' ⟨rfl, n, rfl⟩) | (go_at_call 9; refine (C1.out _).mono ?_; rintro e w' ⟨rfl, n, rfl⟩) | (go_at_call 11; refine (C2.out _).mono ?_; rintro e w' ⟨rfl, n, rfl⟩) | (go_at_call 13; refine (C3.out _).mono ?_; rintro e w' ⟨rfl, n, rfl⟩) | (go_at_call 15; refine (C4.out _).mono ?_; rintro e w' ⟨rfl, n, rfl⟩))
      go_ret
      exact ⟨rfl, grown_draws _ _⟩
    · have hn' : 2 ≤ a2 := by omega
      have hd : decide (4611686018427387904 < a2) = true := by simpa using hn
      go_enter Try.func7, Try.ntmps7
      go_wp2_with (first | (go_at_call 8; refine (awake_any _).mono ?_; rintro e w' ⟨rfl, n, rfl⟩) | (go_at_call 9; refine (C1.out _).mono ?_; rintro e w' ⟨rfl, n, rfl⟩) | (go_at_call 11; refine (C2.out _).mono ?_; rintro e w' ⟨rfl, n, rfl⟩) | (go_at_call 13; refine (C3.out _).mono ?_; rintro e w' ⟨rfl, n, rfl⟩) | (go_at_call 15; refine (C4.out _).mono ?_; rintro e w' ⟨rfl, n, rfl⟩))
      go_ret
      exact ⟨rfl, grown_draws _ _⟩
  · obtain ⟨m0, m1⟩ := okM_yes hm
    have hd : decide (4611686018427387904 < a2) = false := by simpa using m1
    have e0 : mulI a0 (addI a1 c a2) a2 = addI (mulI a0 a1 a2) (mulI a0 c a2) a2 := rule_dist a0 a1 c a2
    have e1 : addI (subI a0 a1 a2) a1 a2 = a0 % a2 := rule_back a0 a1 a2 hm
    have e2 : mulI a1 a0 a2 = mulI a0 a1 a2 := rule_comm a1 a0 a2
    have e3 : powI a0 (a1 / 4 + c / 4) a2 = mulI (powI a0 (a1 / 4) a2) (powI a0 (c / 4) a2) a2 := rule_pow a0 (a1 / 4) (c / 4) a2 (by omega) (by omega)
    have f1 := addI_bd a1 c a2
    have f2 := mulI_bd a0 a1 a2
    have f3 := mulI_bd a0 c a2
    have f4 := subI_bd a0 a1 a2
    have f5 := powI_bd a0 (a1 / 4) a2
    have f6 := powI_bd a0 (c / 4) a2
    have D1 : Hid (∀ w, Calls Try.prog 9 #[.int .u64 (subI a0 a1 a2), .int .u64 a1, .int .u64 a2] w fun e w' => e = .returned (.int .u64 (a0 % a2)) ∧ ∃ n, w' = w.drewN n) := fun w => e1 ▸ add_any (subI a0 a1 a2) a1 a2 w (by omega) (by omega) q0 q1
    clear w0 w1 w2 hm e1
    go_enter Try.func7, Try.ntmps7
    go_wp2_with (first | (go_at_call 8; refine (awake_any _).mono ?_; rintro e w' ⟨rfl, hdw⟩) | (go_at_call 9; refine (add_any _ _ _ _ (by omega) (by omega) (by omega) (by omega)).mono ?_; rintro e w' ⟨rfl, hdw⟩) | (go_at_call 11; refine (sub_any _ _ _ _ (by omega) (by omega) (by omega) (by omega)).mono ?_; rintro e w' ⟨rfl, hdw⟩) | (go_at_call 13; refine (mul_any _ _ _ _ (by omega) (by omega) (by omega) (by omega)).mono ?_; rintro e w' ⟨rfl, hdw⟩) | (go_at_call 15; refine (pow_any _ _ _ _ (by omega) (by omega) (by omega) (by omega)).mono ?_; rintro e w' ⟨rfl, hdw⟩))
    go_quiet (first | (go_at_call 9; exact Calls.quiet_of (D1.out _)) | (go_at_call 11; exact Calls.quiet_of (sub_any _ _ _ _ (by omega) (by omega) (by omega) (by omega))) | (go_at_call 13; exact Calls.quiet_of (mul_any _ _ _ _ (by omega) (by omega) (by omega) (by omega))))
    go_wp2_with (first | (go_at_call 13; refine (mul_any _ _ _ _ (by omega) (by omega) (by omega) (by omega)).mono ?_; rintro e w' ⟨rfl, hdw⟩) | (go_at_call 15; refine (pow_any _ _ _ _ (by omega) (by omega) (by omega) (by omega)).mono ?_; rintro e w' ⟨rfl, hdw⟩))
    go_ret
    refine ⟨rfl, grown_of ?_⟩
    repeat (first | exact ⟨_, rfl⟩ | assumption | refine drawn_trans ?_ (by assumption) | refine drawn_trans ?_ ⟨_, rfl⟩)

set_option maxRecDepth 100000 in
theorem lifted (os : Os) (started : os.Started) (H : Type) (enc : TypeId × Value → H) :
    ReturnsInHanded {} Try.checked os 7 .any (Rows.modRulesSpec.pre6 enc Try.prog Try.f7 Rows.modRulesRow.domain false) (Rows.modRulesSpec.post enc Try.prog Try.f7 false true false false) := by
  refine returnsInHanded_of_change (C := Try.checked) own started (by kernel_rfl) Try.func7
    (ChangeSpec.witness6 (enc := enc) (C := Try.checked) false ⟨#[], #[.int .u64 0, .int .u64 0, .int .u64 0], []⟩ 8 (by kernel_rfl) (by kernel_rfl) (by kernel_rfl) (by kernel_rfl)) ?_
  intro W base args ds gs before hval0 hW hcnd _
  have hval : ∀ (j : Nat) t v, Try.f7.params[j]? = some t → args[j]? = some v → Value.okWide Try.prog W .any base t v := hval0
  have hW' := hW
  obtain ⟨p, q, hA0, hV, rfl, hfz, hnd⟩ := hW
  have hA : DataW.TrodAll enc Try.prog W 0 (fun _ => true) true Try.f7.params.toList args.toList ds p := hA0
  rw [Try.params7] at hA hval
  obtain ⟨v0, vs0, d0, ds0, p0, q0, hargs, rfl, rfl, h0, r0⟩ := trodAll_cons hA
  obtain ⟨v1, vs1, d1, ds1, p1, q1, rfl, rfl, rfl, h1, r1⟩ := trodAll_cons r0
  obtain ⟨v2, vs2, d2, ds2, p2, q2, rfl, rfl, rfl, h2, r2⟩ := trodAll_cons r1
  obtain ⟨rfl, rfl, rfl⟩ := trodAll_nil r2
  obtain rfl : args = #[v0, v1, v2] := by cases args; simp_all
  obtain ⟨rfl, rfl⟩ := trodVars_none hV
  obtain ⟨a0, rfl, rfl, rfl, w0⟩ := open_int Try.underlying22 (hval 0 22 v0 rfl rfl) h0
  obtain ⟨a1, rfl, rfl, rfl, w1⟩ := open_int Try.underlying22 (hval 1 22 v1 rfl rfl) h1
  obtain ⟨a2, rfl, rfl, rfl, w2⟩ := open_int Try.underlying22 (hval 2 22 v2 rfl rfl) h2
  clear hA0 hval0
  simp only [List.append_nil] at hW'
  refine (walk a0 a1 a2 w0 w1 w2 W).mono fun e W' ⟨he, hg⟩ => ?_
  subst he
  exact ⟨_, rfl, post_of_same (pa := []) (pv := []) hW' (fun _ _ _ => (trodAll_cons_mk (shut_bool Try.underlying4 _) trodAll_mk0)) (fun sp _ => (trodAll_cons_mk (shut_int Try.underlying22 w0) (trodAll_cons_mk (shut_int Try.underlying22 w1) (trodAll_cons_mk (shut_int Try.underlying22 w2) trodAll_mk0)))) (fun _ _ => rfl) rfl
    (hg.frame _) hg.2.1 (ok_one (by kernel_rfl) rfl (okWide_bool_mk Try.underlying4 _))⟩

theorem over : Rows.modRulesRow.holds Try.pinned (OpenSpec.ofChange Rows.modRulesSpec) :=
  OpenClaim.holds_of_wide 7 Try.f7 rfl rfl rfl rfl rfl rfl rfl ⟨rfl, rfl, rfl, rfl, rfl⟩ rfl rfl rfl rfl rfl (by kernel_rfl) Try.func7 (by kernel_rfl)
    (of_decide_eq_true (by kernel_rfl)) (by unfold Func.isWrapper; first | (rw [if_pos (by decide +kernel)]; kernel_rfl) | (rw [if_neg (by decide +kernel)]; exact ⟨rfl, rfl⟩))
    (fun os started H enc _ => lifted os started H enc)

end Go.Proofs.Ytneopeckflfbaaa.modRules

namespace Go.Proofs.Ytneopeckflfbaaa
theorem modRules_holds : Rows.ModRulesSaid := modRules.over
#print axioms modRules_holds
end Go.Proofs.Ytneopeckflfbaaa
