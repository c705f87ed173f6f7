/-
  No cell of these rows narrows 'for every input' (looked for: loops, veiled, ifaces, maps, wideKeys, modest, calm, conditions, laid).
  DERIVED. THE GIVEN ROWS OF THIS SEAT. 6 by the template 'for every input the law returns true; each argument reads behind the call as it read before'; 0 by the template 'total and deterministic' (their statements: YthheogiiggiciadTotals.lean).
  GIVEN WITH THE SEED: the statements are not yours to turn. If you find one false, say at which input.
  Laid BY PROGRAM, IN A SANDBOX (cutbox-rows.mjs): the forced cells as the released guide's own fill.sh prints them over the translation 35cda65e91668ed1… (all of the seat's roots in one cut). By AI agents, Wed Nov 11 2026. No macro, syntax, notation, axiom, sorry.
-/
import Derived.Test.YthheogiiggiciadChecked
import GoSem.Claim
import GoSem.ClaimJoined
import GoSem.ClaimMapViews
import Derived.JoinedTies
import Derived.KernelRfl
namespace Go.Proofs.Ythheogiiggiciad
/- THE CELL 'sum', in the pinned program and in every row, IS THE sha256 OF THE DUMP (.gsa) THAT YthheogiiggiciadProg.lean LOADS. Nothing in Lean hashes anything: it is a label: what it is worth is what the hold of that sum in a sandbox is worth. -/
noncomputable def Try.pinned : Pinned := { name := "ythheogiiggiciad", sum := "35cda65e91668ed1150e49ddb0de5868d91a88d3ee950eccf522d26a47552244", checked := Try.checked }
namespace Rows
def none {H : Type} : Left H := { results := [], args := [] }

/-- 'spandrellaw04.GroupCounts': WHATEVER THE INPUT: true; the input reads as it did. -/
def groupCountsSpec : ChangeSpec := { name := "groupCounts", fn := fun _ => fun
  | [d] => { results := [.lit (.bool true)], args := [d] }
  | _ => none }
def groupCountsRow : OpenClaim := { program := "ythheogiiggiciad", sum := "35cda65e91668ed1150e49ddb0de5868d91a88d3ee950eccf522d26a47552244", func := "spandrel/spandrellaw04.GroupCounts", spec := "groupCounts", named := ["math/bits.divideError", "math/bits.overflowError"], apart := false }
def GroupCountsSaid : Prop := groupCountsRow.holds Try.pinned (OpenSpec.ofChange groupCountsSpec)

/-- ITS FALSE NEIGHBOUR: 'it returns false'. Refute it at one input. -/
def groupCountsWrong : ChangeSpec := { name := "groupCounts", fn := fun _ => fun
  | [d] => { results := [.lit (.bool false)], args := [d] }
  | _ => none }
def GroupCountsWrongFalsely : Prop := groupCountsRow.holds Try.pinned (OpenSpec.ofChange groupCountsWrong)

/-- 'spandrellaw05.GamalSeals': WHATEVER THE INPUT: true; the input reads as it did. -/
def gamalSealsSpec : ChangeSpec := { name := "gamalSeals", fn := fun _ => fun
  | [d1, d2, d3] => { results := [.lit (.bool true)], args := [d1, d2, d3] }
  | _ => none }
def gamalSealsRow : OpenClaim := { program := "ythheogiiggiciad", sum := "35cda65e91668ed1150e49ddb0de5868d91a88d3ee950eccf522d26a47552244", func := "spandrel/spandrellaw05.GamalSeals", spec := "gamalSeals", named := ["math/bits.divideError", "math/bits.overflowError"], apart := false }
def GamalSealsSaid : Prop := gamalSealsRow.holds Try.pinned (OpenSpec.ofChange gamalSealsSpec)

/-- ITS FALSE NEIGHBOUR: 'it returns false'. Refute it at one input. -/
def gamalSealsWrong : ChangeSpec := { name := "gamalSeals", fn := fun _ => fun
  | [d1, d2, d3] => { results := [.lit (.bool false)], args := [d1, d2, d3] }
  | _ => none }
def GamalSealsWrongFalsely : Prop := gamalSealsRow.holds Try.pinned (OpenSpec.ofChange gamalSealsWrong)

/-- 'spandrellaw05.GamalCrosses': WHATEVER THE INPUT: true; the input reads as it did. -/
def gamalCrossesSpec : ChangeSpec := { name := "gamalCrosses", fn := fun _ => fun
  | [d1, d2, d3] => { results := [.lit (.bool true)], args := [d1, d2, d3] }
  | _ => none }
def gamalCrossesRow : OpenClaim := { program := "ythheogiiggiciad", sum := "35cda65e91668ed1150e49ddb0de5868d91a88d3ee950eccf522d26a47552244", func := "spandrel/spandrellaw05.GamalCrosses", spec := "gamalCrosses", named := ["math/bits.divideError", "math/bits.overflowError"], apart := false }
def GamalCrossesSaid : Prop := gamalCrossesRow.holds Try.pinned (OpenSpec.ofChange gamalCrossesSpec)

/-- ITS FALSE NEIGHBOUR: 'it returns false'. Refute it at one input. -/
def gamalCrossesWrong : ChangeSpec := { name := "gamalCrosses", fn := fun _ => fun
  | [d1, d2, d3] => { results := [.lit (.bool false)], args := [d1, d2, d3] }
  | _ => none }
def GamalCrossesWrongFalsely : Prop := gamalCrossesRow.holds Try.pinned (OpenSpec.ofChange gamalCrossesWrong)

/-- 'spandrellaw05.GamalOpens': WHATEVER THE INPUT: true; the input reads as it did. -/
def gamalOpensSpec : ChangeSpec := { name := "gamalOpens", fn := fun _ => fun
  | [d1, d2, d3] => { results := [.lit (.bool true)], args := [d1, d2, d3] }
  | _ => none }
def gamalOpensRow : OpenClaim := { program := "ythheogiiggiciad", sum := "35cda65e91668ed1150e49ddb0de5868d91a88d3ee950eccf522d26a47552244", func := "spandrel/spandrellaw05.GamalOpens", spec := "gamalOpens", named := ["math/bits.divideError", "math/bits.overflowError"], apart := false }
def GamalOpensSaid : Prop := gamalOpensRow.holds Try.pinned (OpenSpec.ofChange gamalOpensSpec)

/-- ITS FALSE NEIGHBOUR: 'it returns false'. Refute it at one input. -/
def gamalOpensWrong : ChangeSpec := { name := "gamalOpens", fn := fun _ => fun
  | [d1, d2, d3] => { results := [.lit (.bool false)], args := [d1, d2, d3] }
  | _ => none }
def GamalOpensWrongFalsely : Prop := gamalOpensRow.holds Try.pinned (OpenSpec.ofChange gamalOpensWrong)

/-- 'spandrellaw05.GamalOver': WHATEVER THE INPUT: true; the input reads as it did. -/
def gamalOverSpec : ChangeSpec := { name := "gamalOver", fn := fun _ => fun
  | [d1, d2, d3] => { results := [.lit (.bool true)], args := [d1, d2, d3] }
  | _ => none }
def gamalOverRow : OpenClaim := { program := "ythheogiiggiciad", sum := "35cda65e91668ed1150e49ddb0de5868d91a88d3ee950eccf522d26a47552244", func := "spandrel/spandrellaw05.GamalOver", spec := "gamalOver", named := ["math/bits.divideError", "math/bits.overflowError"], apart := false }
def GamalOverSaid : Prop := gamalOverRow.holds Try.pinned (OpenSpec.ofChange gamalOverSpec)

/-- ITS FALSE NEIGHBOUR: 'it returns false'. Refute it at one input. -/
def gamalOverWrong : ChangeSpec := { name := "gamalOver", fn := fun _ => fun
  | [d1, d2, d3] => { results := [.lit (.bool false)], args := [d1, d2, d3] }
  | _ => none }
def GamalOverWrongFalsely : Prop := gamalOverRow.holds Try.pinned (OpenSpec.ofChange gamalOverWrong)

/-- 'spandrellaw05.GamalAdds': WHATEVER THE INPUT: true; the input reads as it did. -/
def gamalAddsSpec : ChangeSpec := { name := "gamalAdds", fn := fun _ => fun
  | [d1, d2, d3] => { results := [.lit (.bool true)], args := [d1, d2, d3] }
  | _ => none }
def gamalAddsRow : OpenClaim := { program := "ythheogiiggiciad", sum := "35cda65e91668ed1150e49ddb0de5868d91a88d3ee950eccf522d26a47552244", func := "spandrel/spandrellaw05.GamalAdds", spec := "gamalAdds", named := ["math/bits.divideError", "math/bits.overflowError"], apart := false }
def GamalAddsSaid : Prop := gamalAddsRow.holds Try.pinned (OpenSpec.ofChange gamalAddsSpec)

/-- ITS FALSE NEIGHBOUR: 'it returns false'. Refute it at one input. -/
def gamalAddsWrong : ChangeSpec := { name := "gamalAdds", fn := fun _ => fun
  | [d1, d2, d3] => { results := [.lit (.bool false)], args := [d1, d2, d3] }
  | _ => none }
def GamalAddsWrongFalsely : Prop := gamalAddsRow.holds Try.pinned (OpenSpec.ofChange gamalAddsWrong)

/- THE SECOND FORM. 'bulk': how many values and letters a reading holds, each counted each time it is reached (what is shared counts as often as it is met; a slice's spare places count too). A statement '..UptoSaid' is the law's where the arguments, and the package variables that the reading takes, are together of bulk at most 1048576: NARROWER than '..Said'. Prove '..Said' where nothing that the law and all that it calls make is longer than what came in: it says more and counts as full. Else prove '..UptoSaid'. A law counts once. -/
mutual
def uptoBulk {H : Type} : DataW H → Nat
  | .lit (.string bytes) => bytes.length + 1
  | .lit _ => 1
  | .nil => 1
  | .ptr d => uptoBulk d + 1
  | .slice elems spare => uptoBulkAll elems + uptoBulkAll spare + 1
  | .agg parts => uptoBulkAll parts + 1
  | .iface _ d => uptoBulk d + 1
  | .map entries => uptoBulkEntries entries + 1
  | .held _ => 1
def uptoBulkAll {H : Type} : List (DataW H) → Nat
  | [] => 0
  | d :: r => uptoBulk d + uptoBulkAll r
def uptoBulkEntries {H : Type} : List (Lit × DataW H) → Nat
  | [] => 0
  | x :: r => uptoBulkEntry x + uptoBulkEntries r
def uptoBulkEntry {H : Type} : Lit × DataW H → Nat
  | (.string bytes, d) => bytes.length + uptoBulk d + 1
  | (_, d) => uptoBulk d + 1
 end
def uptoSmall : (H : Type) → List (DataW H) → Bool := fun _ ds => decide (uptoBulkAll ds ≤ 1048576)
def OpenSpec.upto (s : _root_.Go.ChangeSpec) : _root_.Go.OpenSpec := { _root_.Go.OpenSpec.ofChange s with cond := some uptoSmall }

/-- 'spandrellaw04.GroupCounts', WHERE WHAT IT READS IS OF BULK AT MOST 1048576: true; the input reads as it did. -/
def groupCountsUptoRow : OpenClaim := { program := "ythheogiiggiciad", sum := "35cda65e91668ed1150e49ddb0de5868d91a88d3ee950eccf522d26a47552244", func := "spandrel/spandrellaw04.GroupCounts", spec := "groupCounts", named := ["math/bits.divideError", "math/bits.overflowError"], apart := false, narrowed := true }
def GroupCountsUptoSaid : Prop := groupCountsUptoRow.holds Try.pinned (OpenSpec.upto groupCountsSpec)

/-- 'spandrellaw05.GamalSeals', WHERE WHAT IT READS IS OF BULK AT MOST 1048576: true; the input reads as it did. -/
def gamalSealsUptoRow : OpenClaim := { program := "ythheogiiggiciad", sum := "35cda65e91668ed1150e49ddb0de5868d91a88d3ee950eccf522d26a47552244", func := "spandrel/spandrellaw05.GamalSeals", spec := "gamalSeals", named := ["math/bits.divideError", "math/bits.overflowError"], apart := false, narrowed := true }
def GamalSealsUptoSaid : Prop := gamalSealsUptoRow.holds Try.pinned (OpenSpec.upto gamalSealsSpec)

/-- 'spandrellaw05.GamalCrosses', WHERE WHAT IT READS IS OF BULK AT MOST 1048576: true; the input reads as it did. -/
def gamalCrossesUptoRow : OpenClaim := { program := "ythheogiiggiciad", sum := "35cda65e91668ed1150e49ddb0de5868d91a88d3ee950eccf522d26a47552244", func := "spandrel/spandrellaw05.GamalCrosses", spec := "gamalCrosses", named := ["math/bits.divideError", "math/bits.overflowError"], apart := false, narrowed := true }
def GamalCrossesUptoSaid : Prop := gamalCrossesUptoRow.holds Try.pinned (OpenSpec.upto gamalCrossesSpec)

/-- 'spandrellaw05.GamalOpens', WHERE WHAT IT READS IS OF BULK AT MOST 1048576: true; the input reads as it did. -/
def gamalOpensUptoRow : OpenClaim := { program := "ythheogiiggiciad", sum := "35cda65e91668ed1150e49ddb0de5868d91a88d3ee950eccf522d26a47552244", func := "spandrel/spandrellaw05.GamalOpens", spec := "gamalOpens", named := ["math/bits.divideError", "math/bits.overflowError"], apart := false, narrowed := true }
def GamalOpensUptoSaid : Prop := gamalOpensUptoRow.holds Try.pinned (OpenSpec.upto gamalOpensSpec)

/-- 'spandrellaw05.GamalOver', WHERE WHAT IT READS IS OF BULK AT MOST 1048576: true; the input reads as it did. -/
def gamalOverUptoRow : OpenClaim := { program := "ythheogiiggiciad", sum := "35cda65e91668ed1150e49ddb0de5868d91a88d3ee950eccf522d26a47552244", func := "spandrel/spandrellaw05.GamalOver", spec := "gamalOver", named := ["math/bits.divideError", "math/bits.overflowError"], apart := false, narrowed := true }
def GamalOverUptoSaid : Prop := gamalOverUptoRow.holds Try.pinned (OpenSpec.upto gamalOverSpec)

/-- 'spandrellaw05.GamalAdds', WHERE WHAT IT READS IS OF BULK AT MOST 1048576: true; the input reads as it did. -/
def gamalAddsUptoRow : OpenClaim := { program := "ythheogiiggiciad", sum := "35cda65e91668ed1150e49ddb0de5868d91a88d3ee950eccf522d26a47552244", func := "spandrel/spandrellaw05.GamalAdds", spec := "gamalAdds", named := ["math/bits.divideError", "math/bits.overflowError"], apart := false, narrowed := true }
def GamalAddsUptoSaid : Prop := gamalAddsUptoRow.holds Try.pinned (OpenSpec.upto gamalAddsSpec)

end Rows
end Go.Proofs.Ythheogiiggiciad
