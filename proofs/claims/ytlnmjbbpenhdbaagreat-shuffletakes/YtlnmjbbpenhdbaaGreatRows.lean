/-
  No cell of these rows narrows 'for every input' (looked for: loops, veiled, ifaces, maps, wideKeys, modest, calm, conditions, laid).
  DERIVED. THE GIVEN ROWS OF THIS SEAT. 9 by the template 'for every input the law returns true; each argument reads behind the call as it read before'; 0 by the template 'total and deterministic' (their statements: YtlnmjbbpenhdbaaGreatTotals.lean).
  GIVEN WITH THE SEED: the statements are not yours to turn. If you find one false, say at which input.
  Laid BY PROGRAM, IN A SANDBOX (cutbox-rows.mjs): the forced cells as the released guide's own fill.sh prints them over the translation 4ffd35f68cce797e… (all of the seat's roots in one cut). By AI agents, Wed Nov 11 2026. No macro, syntax, notation, axiom, sorry.
-/
import Derived.Test.YtlnmjbbpenhdbaaGreatChecked
import GoSem.Claim
import GoSem.ClaimJoined
import GoSem.ClaimMapViews
import Derived.JoinedTies
import Derived.KernelRfl
namespace Go.Proofs.YtlnmjbbpenhdbaaGreat
/- THE CELL 'sum', in the pinned program and in every row, IS THE sha256 OF THE DUMP (.gsa) THAT YtlnmjbbpenhdbaaGreatProg.lean LOADS. Nothing in Lean hashes anything: it is a label: what it is worth is what the hold of that sum in a sandbox is worth. -/
noncomputable def Tryz.pinned : Pinned := { name := "ytlnmjbbpenhdbaagreat", sum := "4ffd35f68cce797ec41ac8090368f0da4faff0475c04c631641c7e88c8bfee91", checked := Tryz.checked }
namespace Rows
def none {H : Type} : Left H := { results := [], args := [] }

/-- 'spandrellaw08.ShuffleMixes': WHATEVER THE INPUT: true; the input reads as it did. -/
def shuffleMixesSpec : ChangeSpec := { name := "shuffleMixes", fn := fun _ => fun
  | [d1, d2] => { results := [.lit (.bool true)], args := [d1, d2] }
  | _ => none }
def shuffleMixesRow : OpenClaim := { program := "ytlnmjbbpenhdbaagreat", sum := "4ffd35f68cce797ec41ac8090368f0da4faff0475c04c631641c7e88c8bfee91", func := "spandrel/spandrellaw08.ShuffleMixes", spec := "shuffleMixes", inPlace := ["internal/abi.NoEscape", "internal/bytealg.MakeNoZero"], unfollowed := true, recurses := true, named := ["math/bits.divideError", "math/bits.overflowError"], apart := false }
def ShuffleMixesSaid : Prop := shuffleMixesRow.holds Tryz.pinned (OpenSpec.ofChange shuffleMixesSpec)

/-- ITS FALSE NEIGHBOUR: 'it returns false'. Refute it at one input. -/
def shuffleMixesWrong : ChangeSpec := { name := "shuffleMixes", fn := fun _ => fun
  | [d1, d2] => { results := [.lit (.bool false)], args := [d1, d2] }
  | _ => none }
def ShuffleMixesWrongFalsely : Prop := shuffleMixesRow.holds Tryz.pinned (OpenSpec.ofChange shuffleMixesWrong)

/-- 'spandrellaw08.ShuffleLays': WHATEVER THE INPUT: true; the input reads as it did. -/
def shuffleLaysSpec : ChangeSpec := { name := "shuffleLays", fn := fun _ => fun
  | [d1, d2, d3] => { results := [.lit (.bool true)], args := [d1, d2, d3] }
  | _ => none }
def shuffleLaysRow : OpenClaim := { program := "ytlnmjbbpenhdbaagreat", sum := "4ffd35f68cce797ec41ac8090368f0da4faff0475c04c631641c7e88c8bfee91", func := "spandrel/spandrellaw08.ShuffleLays", spec := "shuffleLays", inPlace := ["internal/abi.NoEscape", "internal/bytealg.MakeNoZero"], unfollowed := true, recurses := true, named := ["math/bits.divideError", "math/bits.overflowError"], apart := false }
def ShuffleLaysSaid : Prop := shuffleLaysRow.holds Tryz.pinned (OpenSpec.ofChange shuffleLaysSpec)

/-- ITS FALSE NEIGHBOUR: 'it returns false'. Refute it at one input. -/
def shuffleLaysWrong : ChangeSpec := { name := "shuffleLays", fn := fun _ => fun
  | [d1, d2, d3] => { results := [.lit (.bool false)], args := [d1, d2, d3] }
  | _ => none }
def ShuffleLaysWrongFalsely : Prop := shuffleLaysRow.holds Tryz.pinned (OpenSpec.ofChange shuffleLaysWrong)

/-- 'spandrellaw08.ShuffleClaims': WHATEVER THE INPUT: true; the input reads as it did. -/
def shuffleClaimsSpec : ChangeSpec := { name := "shuffleClaims", fn := fun _ => fun
  | [d1, d2, d3] => { results := [.lit (.bool true)], args := [d1, d2, d3] }
  | _ => none }
def shuffleClaimsRow : OpenClaim := { program := "ytlnmjbbpenhdbaagreat", sum := "4ffd35f68cce797ec41ac8090368f0da4faff0475c04c631641c7e88c8bfee91", func := "spandrel/spandrellaw08.ShuffleClaims", spec := "shuffleClaims", inPlace := ["internal/abi.NoEscape", "internal/bytealg.MakeNoZero"], unfollowed := true, recurses := true, named := ["math/bits.divideError", "math/bits.overflowError"], apart := false }
def ShuffleClaimsSaid : Prop := shuffleClaimsRow.holds Tryz.pinned (OpenSpec.ofChange shuffleClaimsSpec)

/-- ITS FALSE NEIGHBOUR: 'it returns false'. Refute it at one input. -/
def shuffleClaimsWrong : ChangeSpec := { name := "shuffleClaims", fn := fun _ => fun
  | [d1, d2, d3] => { results := [.lit (.bool false)], args := [d1, d2, d3] }
  | _ => none }
def ShuffleClaimsWrongFalsely : Prop := shuffleClaimsRow.holds Tryz.pinned (OpenSpec.ofChange shuffleClaimsWrong)

/-- 'spandrellaw08.ShuffleProves': WHATEVER THE INPUT: true; the input reads as it did. -/
def shuffleProvesSpec : ChangeSpec := { name := "shuffleProves", fn := fun _ => fun
  | [d1, d2] => { results := [.lit (.bool true)], args := [d1, d2] }
  | _ => none }
def shuffleProvesRow : OpenClaim := { program := "ytlnmjbbpenhdbaagreat", sum := "4ffd35f68cce797ec41ac8090368f0da4faff0475c04c631641c7e88c8bfee91", func := "spandrel/spandrellaw08.ShuffleProves", spec := "shuffleProves", inPlace := ["internal/abi.NoEscape", "internal/bytealg.MakeNoZero"], unfollowed := true, recurses := true, named := ["math/bits.divideError", "math/bits.overflowError"], apart := false }
def ShuffleProvesSaid : Prop := shuffleProvesRow.holds Tryz.pinned (OpenSpec.ofChange shuffleProvesSpec)

/-- ITS FALSE NEIGHBOUR: 'it returns false'. Refute it at one input. -/
def shuffleProvesWrong : ChangeSpec := { name := "shuffleProves", fn := fun _ => fun
  | [d1, d2] => { results := [.lit (.bool false)], args := [d1, d2] }
  | _ => none }
def ShuffleProvesWrongFalsely : Prop := shuffleProvesRow.holds Tryz.pinned (OpenSpec.ofChange shuffleProvesWrong)

/-- 'spandrellaw08.ShuffleTakes': WHATEVER THE INPUT: true; the input reads as it did. -/
def shuffleTakesSpec : ChangeSpec := { name := "shuffleTakes", fn := fun _ => fun
  | [d1, d2, d3] => { results := [.lit (.bool true)], args := [d1, d2, d3] }
  | _ => none }
def shuffleTakesRow : OpenClaim := { program := "ytlnmjbbpenhdbaagreat", sum := "4ffd35f68cce797ec41ac8090368f0da4faff0475c04c631641c7e88c8bfee91", func := "spandrel/spandrellaw08.ShuffleTakes", spec := "shuffleTakes", inPlace := ["internal/abi.NoEscape", "internal/bytealg.MakeNoZero"], unfollowed := true, recurses := true, named := ["math/bits.divideError", "math/bits.overflowError"], apart := false }
def ShuffleTakesSaid : Prop := shuffleTakesRow.holds Tryz.pinned (OpenSpec.ofChange shuffleTakesSpec)

/-- ITS FALSE NEIGHBOUR: 'it returns false'. Refute it at one input. -/
def shuffleTakesWrong : ChangeSpec := { name := "shuffleTakes", fn := fun _ => fun
  | [d1, d2, d3] => { results := [.lit (.bool false)], args := [d1, d2, d3] }
  | _ => none }
def ShuffleTakesWrongFalsely : Prop := shuffleTakesRow.holds Tryz.pinned (OpenSpec.ofChange shuffleTakesWrong)

/-- 'spandrellaw08.ShuffleWhole': WHATEVER THE INPUT: true; the input reads as it did. -/
def shuffleWholeSpec : ChangeSpec := { name := "shuffleWhole", fn := fun _ => fun
  | [d1, d2, d3] => { results := [.lit (.bool true)], args := [d1, d2, d3] }
  | _ => none }
def shuffleWholeRow : OpenClaim := { program := "ytlnmjbbpenhdbaagreat", sum := "4ffd35f68cce797ec41ac8090368f0da4faff0475c04c631641c7e88c8bfee91", func := "spandrel/spandrellaw08.ShuffleWhole", spec := "shuffleWhole", inPlace := ["internal/abi.NoEscape", "internal/bytealg.MakeNoZero"], unfollowed := true, recurses := true, named := ["math/bits.divideError", "math/bits.overflowError"], apart := false }
def ShuffleWholeSaid : Prop := shuffleWholeRow.holds Tryz.pinned (OpenSpec.ofChange shuffleWholeSpec)

/-- ITS FALSE NEIGHBOUR: 'it returns false'. Refute it at one input. -/
def shuffleWholeWrong : ChangeSpec := { name := "shuffleWhole", fn := fun _ => fun
  | [d1, d2, d3] => { results := [.lit (.bool false)], args := [d1, d2, d3] }
  | _ => none }
def ShuffleWholeWrongFalsely : Prop := shuffleWholeRow.holds Tryz.pinned (OpenSpec.ofChange shuffleWholeWrong)

/-- 'spandrellaw08.ShuffleOpens': WHATEVER THE INPUT: true; the input reads as it did. -/
def shuffleOpensSpec : ChangeSpec := { name := "shuffleOpens", fn := fun _ => fun
  | [d1, d2, d3] => { results := [.lit (.bool true)], args := [d1, d2, d3] }
  | _ => none }
def shuffleOpensRow : OpenClaim := { program := "ytlnmjbbpenhdbaagreat", sum := "4ffd35f68cce797ec41ac8090368f0da4faff0475c04c631641c7e88c8bfee91", func := "spandrel/spandrellaw08.ShuffleOpens", spec := "shuffleOpens", inPlace := ["internal/abi.NoEscape", "internal/bytealg.MakeNoZero"], unfollowed := true, recurses := true, named := ["math/bits.divideError", "math/bits.overflowError"], apart := false }
def ShuffleOpensSaid : Prop := shuffleOpensRow.holds Tryz.pinned (OpenSpec.ofChange shuffleOpensSpec)

/-- ITS FALSE NEIGHBOUR: 'it returns false'. Refute it at one input. -/
def shuffleOpensWrong : ChangeSpec := { name := "shuffleOpens", fn := fun _ => fun
  | [d1, d2, d3] => { results := [.lit (.bool false)], args := [d1, d2, d3] }
  | _ => none }
def ShuffleOpensWrongFalsely : Prop := shuffleOpensRow.holds Tryz.pinned (OpenSpec.ofChange shuffleOpensWrong)

/-- 'spandrellaw08.ShuffleTwice': WHATEVER THE INPUT: true; the input reads as it did. -/
def shuffleTwiceSpec : ChangeSpec := { name := "shuffleTwice", fn := fun _ => fun
  | [d1, d2, d3] => { results := [.lit (.bool true)], args := [d1, d2, d3] }
  | _ => none }
def shuffleTwiceRow : OpenClaim := { program := "ytlnmjbbpenhdbaagreat", sum := "4ffd35f68cce797ec41ac8090368f0da4faff0475c04c631641c7e88c8bfee91", func := "spandrel/spandrellaw08.ShuffleTwice", spec := "shuffleTwice", inPlace := ["internal/abi.NoEscape", "internal/bytealg.MakeNoZero"], unfollowed := true, recurses := true, named := ["math/bits.divideError", "math/bits.overflowError"], apart := false }
def ShuffleTwiceSaid : Prop := shuffleTwiceRow.holds Tryz.pinned (OpenSpec.ofChange shuffleTwiceSpec)

/-- ITS FALSE NEIGHBOUR: 'it returns false'. Refute it at one input. -/
def shuffleTwiceWrong : ChangeSpec := { name := "shuffleTwice", fn := fun _ => fun
  | [d1, d2, d3] => { results := [.lit (.bool false)], args := [d1, d2, d3] }
  | _ => none }
def ShuffleTwiceWrongFalsely : Prop := shuffleTwiceRow.holds Tryz.pinned (OpenSpec.ofChange shuffleTwiceWrong)

/-- 'spandrellaw08.ShuffleFakes': WHATEVER THE INPUT: true; the input reads as it did. -/
def shuffleFakesSpec : ChangeSpec := { name := "shuffleFakes", fn := fun _ => fun
  | [d1, d2, d3] => { results := [.lit (.bool true)], args := [d1, d2, d3] }
  | _ => none }
def shuffleFakesRow : OpenClaim := { program := "ytlnmjbbpenhdbaagreat", sum := "4ffd35f68cce797ec41ac8090368f0da4faff0475c04c631641c7e88c8bfee91", func := "spandrel/spandrellaw08.ShuffleFakes", spec := "shuffleFakes", inPlace := ["internal/abi.NoEscape", "internal/bytealg.MakeNoZero"], unfollowed := true, recurses := true, named := ["math/bits.divideError", "math/bits.overflowError"], apart := false }
def ShuffleFakesSaid : Prop := shuffleFakesRow.holds Tryz.pinned (OpenSpec.ofChange shuffleFakesSpec)

/-- ITS FALSE NEIGHBOUR: 'it returns false'. Refute it at one input. -/
def shuffleFakesWrong : ChangeSpec := { name := "shuffleFakes", fn := fun _ => fun
  | [d1, d2, d3] => { results := [.lit (.bool false)], args := [d1, d2, d3] }
  | _ => none }
def ShuffleFakesWrongFalsely : Prop := shuffleFakesRow.holds Tryz.pinned (OpenSpec.ofChange shuffleFakesWrong)

/- THE SECOND FORM. 'bulk': how many values and letters a reading holds, each counted each time it is reached (what is shared counts as often as it is met; a slice's spare places count too). A statement '..UptoSaid' is the law's where the arguments, and the package variables that the reading takes, are together of bulk at most 1048576: NARROWER than '..Said'. Prove '..Said' where nothing that the law and all that it calls make is longer than what came in: it says more and counts as full. Else prove '..UptoSaid'. A law counts once. -/
mutual
def uptoBulk {H : Type} : DataW H → Nat
  | .lit (.string bytes) => bytes.length + 1
  | .lit _ => 1
  | .nil => 1
  | .ptr d => uptoBulk d + 1
  | .slice elems spare => uptoBulkAll elems + uptoBulkAll spare + 1
  | .agg parts => uptoBulkAll parts + 1
  | .iface _ d => uptoBulk d + 1
  | .map entries => uptoBulkEntries entries + 1
  | .held _ => 1
def uptoBulkAll {H : Type} : List (DataW H) → Nat
  | [] => 0
  | d :: r => uptoBulk d + uptoBulkAll r
def uptoBulkEntries {H : Type} : List (Lit × DataW H) → Nat
  | [] => 0
  | x :: r => uptoBulkEntry x + uptoBulkEntries r
def uptoBulkEntry {H : Type} : Lit × DataW H → Nat
  | (.string bytes, d) => bytes.length + uptoBulk d + 1
  | (_, d) => uptoBulk d + 1
 end
def uptoSmall : (H : Type) → List (DataW H) → Bool := fun _ ds => decide (uptoBulkAll ds ≤ 1048576)
def OpenSpec.upto (s : _root_.Go.ChangeSpec) : _root_.Go.OpenSpec := { _root_.Go.OpenSpec.ofChange s with cond := some uptoSmall }

/-- 'spandrellaw08.ShuffleMixes', WHERE WHAT IT READS IS OF BULK AT MOST 1048576: true; the input reads as it did. -/
def shuffleMixesUptoRow : OpenClaim := { program := "ytlnmjbbpenhdbaagreat", sum := "4ffd35f68cce797ec41ac8090368f0da4faff0475c04c631641c7e88c8bfee91", func := "spandrel/spandrellaw08.ShuffleMixes", spec := "shuffleMixes", inPlace := ["internal/abi.NoEscape", "internal/bytealg.MakeNoZero"], unfollowed := true, recurses := true, named := ["math/bits.divideError", "math/bits.overflowError"], apart := false, narrowed := true }
def ShuffleMixesUptoSaid : Prop := shuffleMixesUptoRow.holds Tryz.pinned (OpenSpec.upto shuffleMixesSpec)

/-- 'spandrellaw08.ShuffleLays', WHERE WHAT IT READS IS OF BULK AT MOST 1048576: true; the input reads as it did. -/
def shuffleLaysUptoRow : OpenClaim := { program := "ytlnmjbbpenhdbaagreat", sum := "4ffd35f68cce797ec41ac8090368f0da4faff0475c04c631641c7e88c8bfee91", func := "spandrel/spandrellaw08.ShuffleLays", spec := "shuffleLays", inPlace := ["internal/abi.NoEscape", "internal/bytealg.MakeNoZero"], unfollowed := true, recurses := true, named := ["math/bits.divideError", "math/bits.overflowError"], apart := false, narrowed := true }
def ShuffleLaysUptoSaid : Prop := shuffleLaysUptoRow.holds Tryz.pinned (OpenSpec.upto shuffleLaysSpec)

/-- 'spandrellaw08.ShuffleClaims', WHERE WHAT IT READS IS OF BULK AT MOST 1048576: true; the input reads as it did. -/
def shuffleClaimsUptoRow : OpenClaim := { program := "ytlnmjbbpenhdbaagreat", sum := "4ffd35f68cce797ec41ac8090368f0da4faff0475c04c631641c7e88c8bfee91", func := "spandrel/spandrellaw08.ShuffleClaims", spec := "shuffleClaims", inPlace := ["internal/abi.NoEscape", "internal/bytealg.MakeNoZero"], unfollowed := true, recurses := true, named := ["math/bits.divideError", "math/bits.overflowError"], apart := false, narrowed := true }
def ShuffleClaimsUptoSaid : Prop := shuffleClaimsUptoRow.holds Tryz.pinned (OpenSpec.upto shuffleClaimsSpec)

/-- 'spandrellaw08.ShuffleProves', WHERE WHAT IT READS IS OF BULK AT MOST 1048576: true; the input reads as it did. -/
def shuffleProvesUptoRow : OpenClaim := { program := "ytlnmjbbpenhdbaagreat", sum := "4ffd35f68cce797ec41ac8090368f0da4faff0475c04c631641c7e88c8bfee91", func := "spandrel/spandrellaw08.ShuffleProves", spec := "shuffleProves", inPlace := ["internal/abi.NoEscape", "internal/bytealg.MakeNoZero"], unfollowed := true, recurses := true, named := ["math/bits.divideError", "math/bits.overflowError"], apart := false, narrowed := true }
def ShuffleProvesUptoSaid : Prop := shuffleProvesUptoRow.holds Tryz.pinned (OpenSpec.upto shuffleProvesSpec)

/-- 'spandrellaw08.ShuffleTakes', WHERE WHAT IT READS IS OF BULK AT MOST 1048576: true; the input reads as it did. -/
def shuffleTakesUptoRow : OpenClaim := { program := "ytlnmjbbpenhdbaagreat", sum := "4ffd35f68cce797ec41ac8090368f0da4faff0475c04c631641c7e88c8bfee91", func := "spandrel/spandrellaw08.ShuffleTakes", spec := "shuffleTakes", inPlace := ["internal/abi.NoEscape", "internal/bytealg.MakeNoZero"], unfollowed := true, recurses := true, named := ["math/bits.divideError", "math/bits.overflowError"], apart := false, narrowed := true }
def ShuffleTakesUptoSaid : Prop := shuffleTakesUptoRow.holds Tryz.pinned (OpenSpec.upto shuffleTakesSpec)

/-- 'spandrellaw08.ShuffleWhole', WHERE WHAT IT READS IS OF BULK AT MOST 1048576: true; the input reads as it did. -/
def shuffleWholeUptoRow : OpenClaim := { program := "ytlnmjbbpenhdbaagreat", sum := "4ffd35f68cce797ec41ac8090368f0da4faff0475c04c631641c7e88c8bfee91", func := "spandrel/spandrellaw08.ShuffleWhole", spec := "shuffleWhole", inPlace := ["internal/abi.NoEscape", "internal/bytealg.MakeNoZero"], unfollowed := true, recurses := true, named := ["math/bits.divideError", "math/bits.overflowError"], apart := false, narrowed := true }
def ShuffleWholeUptoSaid : Prop := shuffleWholeUptoRow.holds Tryz.pinned (OpenSpec.upto shuffleWholeSpec)

/-- 'spandrellaw08.ShuffleOpens', WHERE WHAT IT READS IS OF BULK AT MOST 1048576: true; the input reads as it did. -/
def shuffleOpensUptoRow : OpenClaim := { program := "ytlnmjbbpenhdbaagreat", sum := "4ffd35f68cce797ec41ac8090368f0da4faff0475c04c631641c7e88c8bfee91", func := "spandrel/spandrellaw08.ShuffleOpens", spec := "shuffleOpens", inPlace := ["internal/abi.NoEscape", "internal/bytealg.MakeNoZero"], unfollowed := true, recurses := true, named := ["math/bits.divideError", "math/bits.overflowError"], apart := false, narrowed := true }
def ShuffleOpensUptoSaid : Prop := shuffleOpensUptoRow.holds Tryz.pinned (OpenSpec.upto shuffleOpensSpec)

/-- 'spandrellaw08.ShuffleTwice', WHERE WHAT IT READS IS OF BULK AT MOST 1048576: true; the input reads as it did. -/
def shuffleTwiceUptoRow : OpenClaim := { program := "ytlnmjbbpenhdbaagreat", sum := "4ffd35f68cce797ec41ac8090368f0da4faff0475c04c631641c7e88c8bfee91", func := "spandrel/spandrellaw08.ShuffleTwice", spec := "shuffleTwice", inPlace := ["internal/abi.NoEscape", "internal/bytealg.MakeNoZero"], unfollowed := true, recurses := true, named := ["math/bits.divideError", "math/bits.overflowError"], apart := false, narrowed := true }
def ShuffleTwiceUptoSaid : Prop := shuffleTwiceUptoRow.holds Tryz.pinned (OpenSpec.upto shuffleTwiceSpec)

/-- 'spandrellaw08.ShuffleFakes', WHERE WHAT IT READS IS OF BULK AT MOST 1048576: true; the input reads as it did. -/
def shuffleFakesUptoRow : OpenClaim := { program := "ytlnmjbbpenhdbaagreat", sum := "4ffd35f68cce797ec41ac8090368f0da4faff0475c04c631641c7e88c8bfee91", func := "spandrel/spandrellaw08.ShuffleFakes", spec := "shuffleFakes", inPlace := ["internal/abi.NoEscape", "internal/bytealg.MakeNoZero"], unfollowed := true, recurses := true, named := ["math/bits.divideError", "math/bits.overflowError"], apart := false, narrowed := true }
def ShuffleFakesUptoSaid : Prop := shuffleFakesUptoRow.holds Tryz.pinned (OpenSpec.upto shuffleFakesSpec)

end Rows
end Go.Proofs.YtlnmjbbpenhdbaaGreat
