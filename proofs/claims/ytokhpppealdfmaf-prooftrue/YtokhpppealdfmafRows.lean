/-
  No cell of these rows narrows 'for every input' (looked for: loops, veiled, ifaces, maps, wideKeys, modest, calm, conditions, laid).
  DERIVED. THE GIVEN ROWS OF THIS SEAT. 6 by the template 'for every input the law returns true; each argument reads behind the call as it read before'; 0 by the template 'total and deterministic' (their statements: YtokhpppealdfmafTotals.lean).
  GIVEN WITH THE SEED: the statements are not yours to turn. If you find one false, say at which input.
  Laid BY PROGRAM, IN A SANDBOX (cutbox-rows.mjs): the forced cells as the released guide's own fill.sh prints them over the translation 2870a7f51a7e11dd… (all of the seat's roots in one cut). By AI agents, Wed Nov 11 2026. No macro, syntax, notation, axiom, sorry.
-/
import Derived.Test.YtokhpppealdfmafChecked
import GoSem.Claim
import GoSem.ClaimJoined
import GoSem.ClaimMapViews
import Derived.JoinedTies
import Derived.KernelRfl
namespace Go.Proofs.Ytokhpppealdfmaf
/- THE CELL 'sum', in the pinned program and in every row, IS THE sha256 OF THE DUMP (.gsa) THAT YtokhpppealdfmafProg.lean LOADS. Nothing in Lean hashes anything: it is a label: what it is worth is what the hold of that sum in a sandbox is worth. -/
noncomputable def Try.pinned : Pinned := { name := "ytokhpppealdfmaf", sum := "2870a7f51a7e11dda97291ab9e2343435464ae2278541a79424df15eccfcbfe9", checked := Try.checked }
namespace Rows
def none {H : Type} : Left H := { results := [], args := [] }

/-- 'spandrellaw06.LinearBoth': WHATEVER THE INPUT: true; the input reads as it did. -/
def linearBothSpec : ChangeSpec := { name := "linearBoth", fn := fun _ => fun
  | [d1, d2, d3] => { results := [.lit (.bool true)], args := [d1, d2, d3] }
  | _ => none }
def linearBothRow : OpenClaim := { program := "ytokhpppealdfmaf", sum := "2870a7f51a7e11dda97291ab9e2343435464ae2278541a79424df15eccfcbfe9", func := "spandrel/spandrellaw06.LinearBoth", spec := "linearBoth", named := ["math/bits.divideError", "math/bits.overflowError"], apart := false }
def LinearBothSaid : Prop := linearBothRow.holds Try.pinned (OpenSpec.ofChange linearBothSpec)

/-- ITS FALSE NEIGHBOUR: 'it returns false'. Refute it at one input. -/
def linearBothWrong : ChangeSpec := { name := "linearBoth", fn := fun _ => fun
  | [d1, d2, d3] => { results := [.lit (.bool false)], args := [d1, d2, d3] }
  | _ => none }
def LinearBothWrongFalsely : Prop := linearBothRow.holds Try.pinned (OpenSpec.ofChange linearBothWrong)

/-- 'spandrellaw06.LinearFakes': WHATEVER THE INPUT: true; the input reads as it did. -/
def linearFakesSpec : ChangeSpec := { name := "linearFakes", fn := fun _ => fun
  | [d1, d2, d3] => { results := [.lit (.bool true)], args := [d1, d2, d3] }
  | _ => none }
def linearFakesRow : OpenClaim := { program := "ytokhpppealdfmaf", sum := "2870a7f51a7e11dda97291ab9e2343435464ae2278541a79424df15eccfcbfe9", func := "spandrel/spandrellaw06.LinearFakes", spec := "linearFakes", named := ["math/bits.divideError", "math/bits.overflowError"], apart := false }
def LinearFakesSaid : Prop := linearFakesRow.holds Try.pinned (OpenSpec.ofChange linearFakesSpec)

/-- ITS FALSE NEIGHBOUR: 'it returns false'. Refute it at one input. -/
def linearFakesWrong : ChangeSpec := { name := "linearFakes", fn := fun _ => fun
  | [d1, d2, d3] => { results := [.lit (.bool false)], args := [d1, d2, d3] }
  | _ => none }
def LinearFakesWrongFalsely : Prop := linearFakesRow.holds Try.pinned (OpenSpec.ofChange linearFakesWrong)

/-- 'spandrellaw07.ProofMakes': WHATEVER THE INPUT: true; the input reads as it did. -/
def proofMakesSpec : ChangeSpec := { name := "proofMakes", fn := fun _ => fun
  | [d1, d2, d3] => { results := [.lit (.bool true)], args := [d1, d2, d3] }
  | _ => none }
def proofMakesRow : OpenClaim := { program := "ytokhpppealdfmaf", sum := "2870a7f51a7e11dda97291ab9e2343435464ae2278541a79424df15eccfcbfe9", func := "spandrel/spandrellaw07.ProofMakes", spec := "proofMakes", inPlace := ["internal/abi.NoEscape", "internal/bytealg.MakeNoZero"], named := ["math/bits.divideError", "math/bits.overflowError"], apart := false }
def ProofMakesSaid : Prop := proofMakesRow.holds Try.pinned (OpenSpec.ofChange proofMakesSpec)

/-- ITS FALSE NEIGHBOUR: 'it returns false'. Refute it at one input. -/
def proofMakesWrong : ChangeSpec := { name := "proofMakes", fn := fun _ => fun
  | [d1, d2, d3] => { results := [.lit (.bool false)], args := [d1, d2, d3] }
  | _ => none }
def ProofMakesWrongFalsely : Prop := proofMakesRow.holds Try.pinned (OpenSpec.ofChange proofMakesWrong)

/-- 'spandrellaw07.ProofTakes': WHATEVER THE INPUT: true; the input reads as it did. -/
def proofTakesSpec : ChangeSpec := { name := "proofTakes", fn := fun _ => fun
  | [d1, d2, d3] => { results := [.lit (.bool true)], args := [d1, d2, d3] }
  | _ => none }
def proofTakesRow : OpenClaim := { program := "ytokhpppealdfmaf", sum := "2870a7f51a7e11dda97291ab9e2343435464ae2278541a79424df15eccfcbfe9", func := "spandrel/spandrellaw07.ProofTakes", spec := "proofTakes", inPlace := ["internal/abi.NoEscape", "internal/bytealg.MakeNoZero"], named := ["math/bits.divideError", "math/bits.overflowError"], apart := false }
def ProofTakesSaid : Prop := proofTakesRow.holds Try.pinned (OpenSpec.ofChange proofTakesSpec)

/-- ITS FALSE NEIGHBOUR: 'it returns false'. Refute it at one input. -/
def proofTakesWrong : ChangeSpec := { name := "proofTakes", fn := fun _ => fun
  | [d1, d2, d3] => { results := [.lit (.bool false)], args := [d1, d2, d3] }
  | _ => none }
def ProofTakesWrongFalsely : Prop := proofTakesRow.holds Try.pinned (OpenSpec.ofChange proofTakesWrong)

/-- 'spandrellaw07.ProofClaims': WHATEVER THE INPUT: true; the input reads as it did. -/
def proofClaimsSpec : ChangeSpec := { name := "proofClaims", fn := fun _ => fun
  | [d1, d2, d3] => { results := [.lit (.bool true)], args := [d1, d2, d3] }
  | _ => none }
def proofClaimsRow : OpenClaim := { program := "ytokhpppealdfmaf", sum := "2870a7f51a7e11dda97291ab9e2343435464ae2278541a79424df15eccfcbfe9", func := "spandrel/spandrellaw07.ProofClaims", spec := "proofClaims", inPlace := ["internal/abi.NoEscape", "internal/bytealg.MakeNoZero"], named := ["math/bits.divideError", "math/bits.overflowError"], apart := false }
def ProofClaimsSaid : Prop := proofClaimsRow.holds Try.pinned (OpenSpec.ofChange proofClaimsSpec)

/-- ITS FALSE NEIGHBOUR: 'it returns false'. Refute it at one input. -/
def proofClaimsWrong : ChangeSpec := { name := "proofClaims", fn := fun _ => fun
  | [d1, d2, d3] => { results := [.lit (.bool false)], args := [d1, d2, d3] }
  | _ => none }
def ProofClaimsWrongFalsely : Prop := proofClaimsRow.holds Try.pinned (OpenSpec.ofChange proofClaimsWrong)

/-- 'spandrellaw07.ProofTrue': WHATEVER THE INPUT: true; the input reads as it did. -/
def proofTrueSpec : ChangeSpec := { name := "proofTrue", fn := fun _ => fun
  | [d1, d2, d3] => { results := [.lit (.bool true)], args := [d1, d2, d3] }
  | _ => none }
def proofTrueRow : OpenClaim := { program := "ytokhpppealdfmaf", sum := "2870a7f51a7e11dda97291ab9e2343435464ae2278541a79424df15eccfcbfe9", func := "spandrel/spandrellaw07.ProofTrue", spec := "proofTrue", inPlace := ["internal/abi.NoEscape", "internal/bytealg.MakeNoZero"], named := ["math/bits.divideError", "math/bits.overflowError"], apart := false }
def ProofTrueSaid : Prop := proofTrueRow.holds Try.pinned (OpenSpec.ofChange proofTrueSpec)

/-- ITS FALSE NEIGHBOUR: 'it returns false'. Refute it at one input. -/
def proofTrueWrong : ChangeSpec := { name := "proofTrue", fn := fun _ => fun
  | [d1, d2, d3] => { results := [.lit (.bool false)], args := [d1, d2, d3] }
  | _ => none }
def ProofTrueWrongFalsely : Prop := proofTrueRow.holds Try.pinned (OpenSpec.ofChange proofTrueWrong)

/- THE SECOND FORM. 'bulk': how many values and letters a reading holds, each counted each time it is reached (what is shared counts as often as it is met; a slice's spare places count too). A statement '..UptoSaid' is the law's where the arguments, and the package variables that the reading takes, are together of bulk at most 1048576: NARROWER than '..Said'. Prove '..Said' where nothing that the law and all that it calls make is longer than what came in: it says more and counts as full. Else prove '..UptoSaid'. A law counts once. -/
mutual
def uptoBulk {H : Type} : DataW H → Nat
  | .lit (.string bytes) => bytes.length + 1
  | .lit _ => 1
  | .nil => 1
  | .ptr d => uptoBulk d + 1
  | .slice elems spare => uptoBulkAll elems + uptoBulkAll spare + 1
  | .agg parts => uptoBulkAll parts + 1
  | .iface _ d => uptoBulk d + 1
  | .map entries => uptoBulkEntries entries + 1
  | .held _ => 1
def uptoBulkAll {H : Type} : List (DataW H) → Nat
  | [] => 0
  | d :: r => uptoBulk d + uptoBulkAll r
def uptoBulkEntries {H : Type} : List (Lit × DataW H) → Nat
  | [] => 0
  | x :: r => uptoBulkEntry x + uptoBulkEntries r
def uptoBulkEntry {H : Type} : Lit × DataW H → Nat
  | (.string bytes, d) => bytes.length + uptoBulk d + 1
  | (_, d) => uptoBulk d + 1
 end
def uptoSmall : (H : Type) → List (DataW H) → Bool := fun _ ds => decide (uptoBulkAll ds ≤ 1048576)
def OpenSpec.upto (s : _root_.Go.ChangeSpec) : _root_.Go.OpenSpec := { _root_.Go.OpenSpec.ofChange s with cond := some uptoSmall }

/-- 'spandrellaw06.LinearBoth', WHERE WHAT IT READS IS OF BULK AT MOST 1048576: true; the input reads as it did. -/
def linearBothUptoRow : OpenClaim := { program := "ytokhpppealdfmaf", sum := "2870a7f51a7e11dda97291ab9e2343435464ae2278541a79424df15eccfcbfe9", func := "spandrel/spandrellaw06.LinearBoth", spec := "linearBoth", named := ["math/bits.divideError", "math/bits.overflowError"], apart := false, narrowed := true }
def LinearBothUptoSaid : Prop := linearBothUptoRow.holds Try.pinned (OpenSpec.upto linearBothSpec)

/-- 'spandrellaw06.LinearFakes', WHERE WHAT IT READS IS OF BULK AT MOST 1048576: true; the input reads as it did. -/
def linearFakesUptoRow : OpenClaim := { program := "ytokhpppealdfmaf", sum := "2870a7f51a7e11dda97291ab9e2343435464ae2278541a79424df15eccfcbfe9", func := "spandrel/spandrellaw06.LinearFakes", spec := "linearFakes", named := ["math/bits.divideError", "math/bits.overflowError"], apart := false, narrowed := true }
def LinearFakesUptoSaid : Prop := linearFakesUptoRow.holds Try.pinned (OpenSpec.upto linearFakesSpec)

/-- 'spandrellaw07.ProofMakes', WHERE WHAT IT READS IS OF BULK AT MOST 1048576: true; the input reads as it did. -/
def proofMakesUptoRow : OpenClaim := { program := "ytokhpppealdfmaf", sum := "2870a7f51a7e11dda97291ab9e2343435464ae2278541a79424df15eccfcbfe9", func := "spandrel/spandrellaw07.ProofMakes", spec := "proofMakes", inPlace := ["internal/abi.NoEscape", "internal/bytealg.MakeNoZero"], named := ["math/bits.divideError", "math/bits.overflowError"], apart := false, narrowed := true }
def ProofMakesUptoSaid : Prop := proofMakesUptoRow.holds Try.pinned (OpenSpec.upto proofMakesSpec)

/-- 'spandrellaw07.ProofTakes', WHERE WHAT IT READS IS OF BULK AT MOST 1048576: true; the input reads as it did. -/
def proofTakesUptoRow : OpenClaim := { program := "ytokhpppealdfmaf", sum := "2870a7f51a7e11dda97291ab9e2343435464ae2278541a79424df15eccfcbfe9", func := "spandrel/spandrellaw07.ProofTakes", spec := "proofTakes", inPlace := ["internal/abi.NoEscape", "internal/bytealg.MakeNoZero"], named := ["math/bits.divideError", "math/bits.overflowError"], apart := false, narrowed := true }
def ProofTakesUptoSaid : Prop := proofTakesUptoRow.holds Try.pinned (OpenSpec.upto proofTakesSpec)

/-- 'spandrellaw07.ProofClaims', WHERE WHAT IT READS IS OF BULK AT MOST 1048576: true; the input reads as it did. -/
def proofClaimsUptoRow : OpenClaim := { program := "ytokhpppealdfmaf", sum := "2870a7f51a7e11dda97291ab9e2343435464ae2278541a79424df15eccfcbfe9", func := "spandrel/spandrellaw07.ProofClaims", spec := "proofClaims", inPlace := ["internal/abi.NoEscape", "internal/bytealg.MakeNoZero"], named := ["math/bits.divideError", "math/bits.overflowError"], apart := false, narrowed := true }
def ProofClaimsUptoSaid : Prop := proofClaimsUptoRow.holds Try.pinned (OpenSpec.upto proofClaimsSpec)

/-- 'spandrellaw07.ProofTrue', WHERE WHAT IT READS IS OF BULK AT MOST 1048576: true; the input reads as it did. -/
def proofTrueUptoRow : OpenClaim := { program := "ytokhpppealdfmaf", sum := "2870a7f51a7e11dda97291ab9e2343435464ae2278541a79424df15eccfcbfe9", func := "spandrel/spandrellaw07.ProofTrue", spec := "proofTrue", inPlace := ["internal/abi.NoEscape", "internal/bytealg.MakeNoZero"], named := ["math/bits.divideError", "math/bits.overflowError"], apart := false, narrowed := true }
def ProofTrueUptoSaid : Prop := proofTrueUptoRow.holds Try.pinned (OpenSpec.upto proofTrueSpec)

end Rows
end Go.Proofs.Ytokhpppealdfmaf
