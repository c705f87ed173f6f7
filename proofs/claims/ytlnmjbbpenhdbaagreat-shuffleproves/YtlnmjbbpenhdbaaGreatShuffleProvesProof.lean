/-
  Proved: for every input ShuffleProves returns true, and its arguments read afterwards as they read before; no conditions.
-/
import Derived.Test.YtlnmjbbpenhdbaaGreatRows
import Derived.Test.YtlnmjbbpenhdbaaGreatKp22
import Derived.ProofKit
import Derived.ShutString
namespace Go.Proofs.YtlnmjbbpenhdbaaGreat.shuffleProves
open Go.Proofs.YtlnmjbbpenhdbaaGreat Go.ChangeShapes Go.WideShapes Go.ChangeAt Go.RowKit
set_option linter.unusedVariables false

theorem own : ownKnob Tryz.prog.godebug = none := by kernel_rfl
theorem laidOut : laidOutB Tryz.prog = true := by kernel_rfl

set_option maxRecDepth 100000 in
theorem lifted (os : Os) (started : os.Started) (H : Type) (enc : TypeId × Value → H) :
    ReturnsInHanded {} Tryz.checked os 6 .any (Rows.shuffleProvesSpec.pre6 enc Tryz.prog Tryz.f6 Rows.shuffleProvesRow.domain false) (Rows.shuffleProvesSpec.post enc Tryz.prog Tryz.f6 false true false false) := by
  refine returnsInHanded_of_change_sized (C := Tryz.checked) own started (by kernel_rfl) Tryz.func6
    (ChangeSpec.witness6 (enc := enc) (C := Tryz.checked) false ⟨#[], #[.agg #[.int .u64 0, .int .u64 0, .int .u64 0, .int .u64 0, .slice none 0 0], .agg #[.string ⟨#[]⟩, .int .u64 0, .slice none 0 0, .slice none 0 0, .slice none 0 0, .slice none 0 0, .slice none 0 0, .slice none 0 0, .slice none 0 0]], []⟩ 8 (by kernel_rfl) (by kernel_rfl) (by kernel_rfl) (by kernel_rfl)) ?_
  intro W base args ds gs before hval0 hW hcnd hsz0 _
  have hval : ∀ (j : Nat) t v, Tryz.f6.params[j]? = some t → args[j]? = some v → Value.okWide Tryz.prog W .any base t v := hval0
  have hsz : (DataW.weightsEach Tryz.prog (Tryz.f6.params.toList ++ Rows.shuffleProvesSpec.plain.varTypes Tryz.prog) (ds ++ gs)).all (· ≤ reachBytes) = true := hsz0
  have hW' := hW
  obtain ⟨p, q, hA0, hV, rfl, hfz, hnd⟩ := hW
  have hA : DataW.TrodAll enc Tryz.prog W 0 (fun _ => true) true Tryz.f6.params.toList args.toList ds p := hA0
  rw [Tryz.params6] at hA hval hsz
  obtain ⟨v0, vs0, d0, ds0, p0, q0, hargs, rfl, rfl, h0, r0⟩ := trodAll_cons hA
  obtain ⟨v1, vs1, d1, ds1, p1, q1, rfl, rfl, rfl, h1, r1⟩ := trodAll_cons r0
  obtain ⟨rfl, rfl, rfl⟩ := trodAll_nil r1
  obtain rfl : args = #[v0, v1] := by cases args; simp_all
  obtain ⟨rfl, rfl⟩ := trodVars_none hV
  have k0 := h0
  have lt0 : ∀ x ∈ p0, x.block < W.heap.size := by obtain ⟨m, hm⟩ := k0; exact DataW.trod_lt m _ _ _ hm
  obtain ⟨P0, Q0, G0, H0, a0, n0, c0, rfl, hf0, hc0, N0, A0, FA0, L0, C0, F0, hin0⟩ := open_params Tryz.underlying25 Tryz.underlying22 Tryz.underlying23 Tryz.underlying88 Tryz.underlying29 rfl rfl rfl rfl rfl rfl rfl rfl rfl rfl rfl rfl rfl rfl rfl rfl (by kernel_rfl) (by kernel_rfl) (by kernel_rfl) (by kernel_rfl) (by kernel_rfl) h0
  have k1 := h1
  have lt1 : ∀ x ∈ p1, x.block < W.heap.size := by obtain ⟨m, hm⟩ := k1; exact DataW.trod_lt m _ _ _ hm
  obtain ⟨label, y, bi, l, ci, C, bo, no, co, O, bρ, nρ, cρ, Rh, bR, nR, cR, R, bS, nS, cS, S, bT, nT, cT, T, bD, nD, cD, D, rfl, hlb, hy, hC, hO, ⟨hρ, hR, hS, hcT, hT, hcD, hD⟩, hcC, hcO⟩ := open_job8 Tryz.underlying33 Tryz.underlying9 Tryz.underlying26 Tryz.underlying74 Tryz.underlying69 Tryz.underlying27 Tryz.underlying3 Tryz.underlying31 Tryz.underlying28 Tryz.underlying63 Tryz.underlying29 Tryz.underlying22 ⟨rfl, rfl, rfl, rfl, rfl⟩ ⟨rfl, rfl, rfl, rfl, rfl⟩ ⟨rfl, rfl, rfl, rfl⟩ ⟨rfl, rfl, rfl, rfl, rfl⟩ ⟨rfl, rfl, rfl, rfl, rfl⟩ ⟨by kernel_rfl, by kernel_rfl, by kernel_rfl, by kernel_rfl, by kernel_rfl, by kernel_rfl, by kernel_rfl, by kernel_rfl, by kernel_rfl, by kernel_rfl, by kernel_rfl, by kernel_rfl⟩ h1
  clear hA0 hval0
  refine (law8_proves  P0 Q0 G0 H0 a0 n0 c0 N0 A0 FA0 L0 C0 F0 label y bi l ci C bo no co O bρ nρ cρ Rh bR nR cR R bS nS cS S bT nT cT T bD nD cD D W hf0 hc0 hin0 hlb hy hC hO hρ hR hS hcT hT hcD hD).mono fun e W' ⟨he, bel⟩ => ?_
  subst he
  exact ⟨_, rfl, _, _, _, [], _, [], hW', trodAll_mk1 (shut_bool Tryz.underlying4 _), (trodAll_cons_mk (Old.trod laidOut (by kernel_rfl) (of_decide_eq_true (by kernel_rfl)) k0 bel lt0) (trodAll_cons_mk (Old.trod laidOut (by kernel_rfl) (of_decide_eq_true (by kernel_rfl)) k1 bel lt1) trodAll_mk0)), rfl, bel.frame _, fun h => by cases h⟩

theorem over : Rows.shuffleProvesRow.holds Tryz.pinned (OpenSpec.ofChange Rows.shuffleProvesSpec) :=
  OpenClaim.holds_of_wide 6 Tryz.f6 rfl rfl rfl rfl rfl rfl rfl ⟨rfl, rfl, rfl, rfl, rfl⟩ rfl rfl rfl rfl rfl (by kernel_rfl) Tryz.func6 (by kernel_rfl)
    (of_decide_eq_true (by kernel_rfl)) (by unfold Func.isWrapper; first | (rw [if_pos (by decide +kernel)]; kernel_rfl) | (rw [if_neg (by decide +kernel)]; exact ⟨rfl, rfl⟩))
    (fun os started H enc _ => lifted os started H enc)

end Go.Proofs.YtlnmjbbpenhdbaaGreat.shuffleProves

namespace Go.Proofs.YtlnmjbbpenhdbaaGreat
theorem shuffleProves_holds : Rows.ShuffleProvesSaid := shuffleProves.over
#print axioms shuffleProves_holds
end Go.Proofs.YtlnmjbbpenhdbaaGreat
