/-
  Proved: for every input ModInverses returns true, and its arguments read afterwards as they read before; no conditions.
-/
import Derived.Test.YtneopeckflfbaaaRows
import Derived.Test.YtneopeckflfbaaaInvs
import Derived.Deep.RegionWith
import Derived.WalkKit
import Derived.ProofKit
import Derived.OpenShut
namespace Go.Proofs.Ytneopeckflfbaaa.modInverses
open Go.Proofs.Ytneopeckflfbaaa Go.ChangeShapes Go.WideShapes Go.ChangeAt Go.RowKit
set_option linter.unusedVariables false

theorem own : ownKnob Try.prog.godebug = none := by kernel_rfl

theorem walk (a0 : Int) (a1 : Int) (w0 : (Lit.int .u64 a0).wf = true) (w1 : (Lit.int .u64 a1).wf = true) (w : World) :
    Calls Try.prog 6 #[.int .u64 a0, .int .u64 a1] w fun e w' => e = .returned (.bool true) ∧ Grown w w' := by
  obtain ⟨p0, p1⟩ := bounds_u64 w0
  have C1 : Hid (∀ w, Calls Try.prog 17 #[.int .u64 a0, .int .u64 a1] w fun e w' => e = .returned (.tuple #[.int .u64 (invI a0 a1), .bool (invB a0 a1)]) ∧ ∃ n, w' = w.drewN n) := fun w => inv_any a0 a1 w p0 p1
  have C2 : Hid (∀ w, Calls Try.prog 18 #[.int .u64 a0, .int .u64 a1] w fun e w' => e = .returned (.tuple #[.int .u64 (invI a0 a1), .bool (invB a0 a1)]) ∧ ∃ n, w' = w.drewN n) := fun w => rinv_any a0 a1 w p0 p1
  cases hb : invB a0 a1
  · have e0 := inv_none hb
    rw [hb, e0] at C1 C2
    clear w0 w1 hb e0
    go_enter Try.func6, Try.ntmps6
    go_wp2_with (first | (go_at_call 8; refine (awake_any _).mono ?_; rintro e w' ⟨rfl, n, rfl⟩) | (go_at_call 17; refine (C1.out _).mono ?_; rintro e w' ⟨rfl, n, rfl⟩) | (go_at_call 18; refine (C2.out _).mono ?_; rintro e w' ⟨rfl, n, rfl⟩))
    go_ret
    exact ⟨rfl, grown_draws _ _⟩
  · obtain ⟨hm, n0, n1, e1⟩ := inv_is hb
    obtain ⟨m0, m1⟩ := okM_yes hm
    have e2 : mulI a0 (invI a0 a1) a1 = 1 := by rw [mulI_yes hm, e1]
    rw [hb] at C1 C2
    generalize invI a0 a1 = k at *
    have n2 : 0 < k := by
      by_cases hk : k = 0
      · rw [hk, Int.mul_zero] at e1; simp at e1
      · omega
    have C3 : Hid (∀ w, Calls Try.prog 13 #[.int .u64 a0, .int .u64 k, .int .u64 a1] w fun e w' => e = .returned (.int .u64 1) ∧ ∃ n, w' = w.drewN n) := fun w => by
      have := mul_any a0 k a1 w p0 p1 (by omega) (by omega)
      rwa [e2] at this
    clear w0 w1 hb hm e1 e2
    go_enter Try.func6, Try.ntmps6
    go_wp2_with (first | (go_at_call 8; refine (awake_any _).mono ?_; rintro e w' ⟨rfl, n, rfl⟩) | (go_at_call 17; refine (C1.out _).mono ?_; rintro e w' ⟨rfl, n, rfl⟩) | (go_at_call 18; refine (C2.out _).mono ?_; rintro e w' ⟨rfl, n, rfl⟩) | (go_at_call 13; refine (C3.out _).mono ?_; rintro e w' ⟨rfl, n, rfl⟩))
    go_ret
    exact ⟨rfl, grown_draws _ _⟩

set_option maxRecDepth 100000 in
theorem lifted (os : Os) (started : os.Started) (H : Type) (enc : TypeId × Value → H) :
    ReturnsInHanded {} Try.checked os 6 .any (Rows.modInversesSpec.pre6 enc Try.prog Try.f6 Rows.modInversesRow.domain false) (Rows.modInversesSpec.post enc Try.prog Try.f6 false true false false) := by
  refine returnsInHanded_of_change (C := Try.checked) own started (by kernel_rfl) Try.func6
    (ChangeSpec.witness6 (enc := enc) (C := Try.checked) false ⟨#[], #[.int .u64 0, .int .u64 0], []⟩ 8 (by kernel_rfl) (by kernel_rfl) (by kernel_rfl) (by kernel_rfl)) ?_
  intro W base args ds gs before hval0 hW hcnd _
  have hval : ∀ (j : Nat) t v, Try.f6.params[j]? = some t → args[j]? = some v → Value.okWide Try.prog W .any base t v := hval0
  have hW' := hW
  obtain ⟨p, q, hA0, hV, rfl, hfz, hnd⟩ := hW
  have hA : DataW.TrodAll enc Try.prog W 0 (fun _ => true) true Try.f6.params.toList args.toList ds p := hA0
  rw [Try.params6] at hA hval
  obtain ⟨v0, vs0, d0, ds0, p0, q0, hargs, rfl, rfl, h0, r0⟩ := trodAll_cons hA
  obtain ⟨v1, vs1, d1, ds1, p1, q1, rfl, rfl, rfl, h1, r1⟩ := trodAll_cons r0
  obtain ⟨rfl, rfl, rfl⟩ := trodAll_nil r1
  obtain rfl : args = #[v0, v1] := by cases args; simp_all
  obtain ⟨rfl, rfl⟩ := trodVars_none hV
  obtain ⟨a0, rfl, rfl, rfl, w0⟩ := open_int Try.underlying22 (hval 0 22 v0 rfl rfl) h0
  obtain ⟨a1, rfl, rfl, rfl, w1⟩ := open_int Try.underlying22 (hval 1 22 v1 rfl rfl) h1
  clear hA0 hval0
  simp only [List.append_nil] at hW'
  refine (walk a0 a1 w0 w1 W).mono fun e W' ⟨he, hg⟩ => ?_
  subst he
  exact ⟨_, rfl, post_of_same (pa := []) (pv := []) hW' (fun _ _ _ => (trodAll_cons_mk (shut_bool Try.underlying4 _) trodAll_mk0)) (fun sp _ => (trodAll_cons_mk (shut_int Try.underlying22 w0) (trodAll_cons_mk (shut_int Try.underlying22 w1) trodAll_mk0))) (fun _ _ => rfl) rfl
    (hg.frame _) hg.2.1 (ok_one (by kernel_rfl) rfl (okWide_bool_mk Try.underlying4 _))⟩

theorem over : Rows.modInversesRow.holds Try.pinned (OpenSpec.ofChange Rows.modInversesSpec) :=
  OpenClaim.holds_of_wide 6 Try.f6 rfl rfl rfl rfl rfl rfl rfl ⟨rfl, rfl, rfl, rfl, rfl⟩ rfl rfl rfl rfl rfl (by kernel_rfl) Try.func6 (by kernel_rfl)
    (of_decide_eq_true (by kernel_rfl)) (by unfold Func.isWrapper; first | (rw [if_pos (by decide +kernel)]; kernel_rfl) | (rw [if_neg (by decide +kernel)]; exact ⟨rfl, rfl⟩))
    (fun os started H enc _ => lifted os started H enc)

end Go.Proofs.Ytneopeckflfbaaa.modInverses

namespace Go.Proofs.Ytneopeckflfbaaa
theorem modInverses_holds : Rows.ModInversesSaid := modInverses.over
#print axioms modInverses_holds
end Go.Proofs.Ytneopeckflfbaaa
