/-
  Proved: for every input LinearBoth returns true, and its arguments read afterwards as they read before; no conditions.
-/
import Derived.Test.YtmmicbdjafolpafRows
import Derived.Test.YtmmicbdjafolpafLcons
import Derived.Test.YtmmicbdjafolpafLlaws
import Derived.Test.YtmmicbdjafolpafOpen6
import Derived.WalkKit
import Derived.ProofKit
import Derived.OpenShut
import Derived.ShutString
import Derived.ChangeOld
import Derived.SizedLaws
namespace Go.Proofs.Ytmmicbdjafolpaf.linearBoth
open Go.Proofs.Ytmmicbdjafolpaf Go.ChangeShapes Go.WideShapes Go.ChangeAt Go.RowKit
set_option linter.unusedVariables false

theorem own : ownKnob Try.prog.godebug = none := by kernel_rfl
theorem laidOut : laidOutB Try.prog = true := by kernel_rfl

set_option maxRecDepth 100000 in
theorem lifted (os : Os) (started : os.Started) (H : Type) (enc : TypeId × Value → H) :
    ReturnsInHanded {} Try.checked os 3 .any (Rows.linearBothSpec.pre6 enc Try.prog Try.f3 Rows.linearBothRow.domain false) (Rows.linearBothSpec.post enc Try.prog Try.f3 false true false false) := by
  refine returnsInHanded_of_change_sized (C := Try.checked) own started (by kernel_rfl) Try.func3
    (ChangeSpec.witness6 (enc := enc) (C := Try.checked) false ⟨#[], #[.agg #[.int .u64 0, .int .u64 0, .int .u64 0, .int .u64 0, .slice none 0 0], .slice none 0 0, .agg #[.int .u64 0, .slice none 0 0, .slice none 0 0, .int .u64 0, .slice none 0 0, .slice none 0 0]], []⟩ 8 (by kernel_rfl) (by kernel_rfl) (by kernel_rfl) (by kernel_rfl)) ?_
  intro W base args ds gs before hval0 hW hcnd hsz0 _
  have hval : ∀ (j : Nat) t v, Try.f3.params[j]? = some t → args[j]? = some v → Value.okWide Try.prog W .any base t v := hval0
  have hsz : (DataW.weightsEach Try.prog (Try.f3.params.toList ++ Rows.linearBothSpec.plain.varTypes Try.prog) (ds ++ gs)).all (· ≤ reachBytes) = true := hsz0
  have hW' := hW
  obtain ⟨p, q, hA0, hV, rfl, hfz, hnd⟩ := hW
  have hA : DataW.TrodAll enc Try.prog W 0 (fun _ => true) true Try.f3.params.toList args.toList ds p := hA0
  rw [Try.params3] at hA hval hsz
  obtain ⟨v0, vs0, d0, ds0, p0, q0, hargs, rfl, rfl, h0, r0⟩ := trodAll_cons hA
  obtain ⟨v1, vs1, d1, ds1, p1, q1, rfl, rfl, rfl, h1, r1⟩ := trodAll_cons r0
  obtain ⟨v2, vs2, d2, ds2, p2, q2, rfl, rfl, rfl, h2, r2⟩ := trodAll_cons r1
  obtain ⟨rfl, rfl, rfl⟩ := trodAll_nil r2
  obtain rfl : args = #[v0, v1, v2] := by cases args; simp_all
  obtain ⟨rfl, rfl⟩ := trodVars_none hV
  have k0 := h0
  have lt0 : ∀ x ∈ p0, x.block < W.heap.size := by obtain ⟨m, hm⟩ := k0; exact DataW.trod_lt m _ _ _ hm
  obtain ⟨P0, Q0, G0, H0, a0, n0, c0, rfl, hf0, hc0, N0, A0, FA0, L0, C0, F0, hin0⟩ := open_params Try.underlying25 Try.underlying22 Try.underlying23 Try.underlying50 Try.underlying27 rfl rfl rfl rfl rfl rfl rfl rfl rfl rfl rfl rfl rfl rfl rfl rfl (by kernel_rfl) (by kernel_rfl) (by kernel_rfl) (by kernel_rfl) (by kernel_rfl) h0
  have k1 := h1
  have lt1 : ∀ x ∈ p1, x.block < W.heap.size := by obtain ⟨m, hm⟩ := k1; exact DataW.trod_lt m _ _ _ hm
  obtain ⟨f1, g1⟩ := h1
  obtain ⟨lb1, ln1, lc1, rfl⟩ := okWide_slice Try.underlying26 (hval 1 26 v1 rfl rfl)
  obtain ⟨_, _, _, BA1, CL1, CC1, CB1, hv1, hl1, hm1, hB1⟩ := open_lists Try.underlying26 Try.underlying27 Try.underlying22 (by kernel_rfl) (by kernel_rfl) g1
  cases hv1
  have hw1 : ln1 ≤ 5864062014634 := by
    by_cases h0 : 0 < ln1
    · obtain ⟨q, hq⟩ := list_weight Try.underlying26 g1 h0
      have hz := of_decide_eq_true (List.all_eq_true.1 hsz _ (DataW.weights_mem_each (j := 1) (t := 26) (d := d1) rfl rfl _ hq))
      rw [show Try.prog.bytesOf 27 = 24 by kernel_rfl] at hz
      unfold reachBytes at hz
      omega
    · omega
  have k2 := h2
  have lt2 : ∀ x ∈ p2, x.block < W.heap.size := by obtain ⟨m, hm⟩ := k2; exact DataW.trod_lt m _ _ _ hm
  obtain ⟨te2, tb2, tn2, tc2, tX2, tb2', tn2', tc2', tX2', ste2, stb2, stn2, stc2, stX2, stb2', stn2', stc2', stX2', rfl, ⟨y2a, y2b, y2c, y2d, y2e⟩, ⟨y2f, y2g, y2h, y2i, y2j⟩⟩ := open_talks2 Try.underlying30 Try.underlying29 Try.underlying27 Try.underlying22 rfl rfl rfl rfl rfl rfl (by kernel_rfl) (by kernel_rfl) (by kernel_rfl) (by kernel_rfl) h2
  clear hA0 hval0
  refine (law_both lsize_any lholds_any lanswer_any lextract_any P0 Q0 G0 H0 te2 ste2 a0 n0 c0 N0 A0 FA0 L0 C0 F0 lb1 ln1 lc1 BA1 CL1 CC1 CB1 tb2 tn2 tc2 tX2 tb2' tn2' tc2' tX2' stb2 stn2 stc2 stb2' stn2' stc2' W hf0 hc0 hin0 hw1 hl1 hm1 hB1 y2a y2b y2c y2d y2e y2f).mono fun e W' ⟨he, bel⟩ => ?_
  subst he
  exact ⟨_, rfl, _, _, _, [], _, [], hW', trodAll_mk1 (shut_bool Try.underlying4 _), (trodAll_cons_mk (Old.trod laidOut (by kernel_rfl) (of_decide_eq_true (by kernel_rfl)) k0 bel lt0) (trodAll_cons_mk (Old.trod laidOut (by kernel_rfl) (of_decide_eq_true (by kernel_rfl)) k1 bel lt1) (trodAll_cons_mk (Old.trod laidOut (by kernel_rfl) (of_decide_eq_true (by kernel_rfl)) k2 bel lt2) trodAll_mk0))), rfl, bel.frame _, fun h => by cases h⟩

theorem over : Rows.linearBothRow.holds Try.pinned (OpenSpec.ofChange Rows.linearBothSpec) :=
  OpenClaim.holds_of_wide 3 Try.f3 rfl rfl rfl rfl rfl rfl rfl ⟨rfl, rfl, rfl, rfl, rfl⟩ rfl rfl rfl rfl rfl (by kernel_rfl) Try.func3 (by kernel_rfl)
    (of_decide_eq_true (by kernel_rfl)) (by unfold Func.isWrapper; first | (rw [if_pos (by decide +kernel)]; kernel_rfl) | (rw [if_neg (by decide +kernel)]; exact ⟨rfl, rfl⟩))
    (fun os started H enc _ => lifted os started H enc)

end Go.Proofs.Ytmmicbdjafolpaf.linearBoth

namespace Go.Proofs.Ytmmicbdjafolpaf
theorem linearBoth_holds : Rows.LinearBothSaid := linearBoth.over
#print axioms linearBoth_holds
end Go.Proofs.Ytmmicbdjafolpaf
