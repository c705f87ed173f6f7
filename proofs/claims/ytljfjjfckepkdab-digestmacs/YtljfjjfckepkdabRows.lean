/-
  No cell of these rows narrows 'for every input' (looked for: loops, veiled, ifaces, maps, wideKeys, modest, calm, conditions, laid).
  DERIVED. THE GIVEN ROWS OF THIS SEAT. 4 by the template 'for every input the law returns true; each argument reads behind the call as it read before'; 0 by the template 'total and deterministic' (their statements: YtljfjjfckepkdabTotals.lean).
  GIVEN WITH THE SEED: the statements are not yours to turn. If you find one false, say at which input.
  Laid BY PROGRAM, IN A SANDBOX (cutbox-rows.mjs): the forced cells as the released guide's own fill.sh prints them over the translation d4ac62090ef18f91… (all of the seat's roots in one cut). By AI agents, Wed Nov 11 2026. No macro, syntax, notation, axiom, sorry.
-/
import Derived.Test.YtljfjjfckepkdabChecked
import GoSem.Claim
import GoSem.ClaimJoined
import GoSem.ClaimMapViews
import Derived.JoinedTies
import Derived.KernelRfl
namespace Go.Proofs.Ytljfjjfckepkdab
/- THE CELL 'sum', in the pinned program and in every row, IS THE sha256 OF THE DUMP (.gsa) THAT YtljfjjfckepkdabProg.lean LOADS. Nothing in Lean hashes anything: it is a label: what it is worth is what the hold of that sum in a sandbox is worth. -/
noncomputable def Try.pinned : Pinned := { name := "ytljfjjfckepkdab", sum := "d4ac62090ef18f9115030f210455d525728397cc431f508fd6c6705b896680b1", checked := Try.checked }
namespace Rows
def none {H : Type} : Left H := { results := [], args := [] }

/-- 'spandrellaw02.PrimeTrue': WHATEVER THE INPUT: true; the input reads as it did. -/
def primeTrueSpec : ChangeSpec := { name := "primeTrue", fn := fun _ => fun
  | [d1, d2] => { results := [.lit (.bool true)], args := [d1, d2] }
  | _ => none }
def primeTrueRow : OpenClaim := { program := "ytljfjjfckepkdab", sum := "d4ac62090ef18f9115030f210455d525728397cc431f508fd6c6705b896680b1", func := "spandrel/spandrellaw02.PrimeTrue", spec := "primeTrue", named := ["math/bits.divideError", "math/bits.overflowError"], apart := false }
def PrimeTrueSaid : Prop := primeTrueRow.holds Try.pinned (OpenSpec.ofChange primeTrueSpec)

/-- ITS FALSE NEIGHBOUR: 'it returns false'. Refute it at one input. -/
def primeTrueWrong : ChangeSpec := { name := "primeTrue", fn := fun _ => fun
  | [d1, d2] => { results := [.lit (.bool false)], args := [d1, d2] }
  | _ => none }
def PrimeTrueWrongFalsely : Prop := primeTrueRow.holds Try.pinned (OpenSpec.ofChange primeTrueWrong)

/-- 'spandrellaw02.PrimeFermat': WHATEVER THE INPUT: true; the input reads as it did. -/
def primeFermatSpec : ChangeSpec := { name := "primeFermat", fn := fun _ => fun
  | [d1, d2, d3] => { results := [.lit (.bool true)], args := [d1, d2, d3] }
  | _ => none }
def primeFermatRow : OpenClaim := { program := "ytljfjjfckepkdab", sum := "d4ac62090ef18f9115030f210455d525728397cc431f508fd6c6705b896680b1", func := "spandrel/spandrellaw02.PrimeFermat", spec := "primeFermat", named := ["math/bits.divideError", "math/bits.overflowError"], apart := false }
def PrimeFermatSaid : Prop := primeFermatRow.holds Try.pinned (OpenSpec.ofChange primeFermatSpec)

/-- ITS FALSE NEIGHBOUR: 'it returns false'. Refute it at one input. -/
def primeFermatWrong : ChangeSpec := { name := "primeFermat", fn := fun _ => fun
  | [d1, d2, d3] => { results := [.lit (.bool false)], args := [d1, d2, d3] }
  | _ => none }
def PrimeFermatWrongFalsely : Prop := primeFermatRow.holds Try.pinned (OpenSpec.ofChange primeFermatWrong)

/-- 'spandrellaw02.PrimeBegins': WHATEVER THE INPUT: true; the input reads as it did. -/
def primeBeginsSpec : ChangeSpec := { name := "primeBegins", fn := fun _ => fun
  | [d1, d2, d3] => { results := [.lit (.bool true)], args := [d1, d2, d3] }
  | _ => none }
def primeBeginsRow : OpenClaim := { program := "ytljfjjfckepkdab", sum := "d4ac62090ef18f9115030f210455d525728397cc431f508fd6c6705b896680b1", func := "spandrel/spandrellaw02.PrimeBegins", spec := "primeBegins", named := ["math/bits.divideError", "math/bits.overflowError"], apart := false }
def PrimeBeginsSaid : Prop := primeBeginsRow.holds Try.pinned (OpenSpec.ofChange primeBeginsSpec)

/-- ITS FALSE NEIGHBOUR: 'it returns false'. Refute it at one input. -/
def primeBeginsWrong : ChangeSpec := { name := "primeBegins", fn := fun _ => fun
  | [d1, d2, d3] => { results := [.lit (.bool false)], args := [d1, d2, d3] }
  | _ => none }
def PrimeBeginsWrongFalsely : Prop := primeBeginsRow.holds Try.pinned (OpenSpec.ofChange primeBeginsWrong)

/-- 'spandrellaw03.DigestMacs': WHATEVER THE INPUT: true; the input reads as it did. -/
def digestMacsSpec : ChangeSpec := { name := "digestMacs", fn := fun _ => fun
  | [d1, d2] => { results := [.lit (.bool true)], args := [d1, d2] }
  | _ => none }
def digestMacsRow : OpenClaim := { program := "ytljfjjfckepkdab", sum := "d4ac62090ef18f9115030f210455d525728397cc431f508fd6c6705b896680b1", func := "spandrel/spandrellaw03.DigestMacs", spec := "digestMacs", inPlace := ["internal/abi.NoEscape", "internal/bytealg.MakeNoZero"], apart := false }
def DigestMacsSaid : Prop := digestMacsRow.holds Try.pinned (OpenSpec.ofChange digestMacsSpec)

/-- ITS FALSE NEIGHBOUR: 'it returns false'. Refute it at one input. -/
def digestMacsWrong : ChangeSpec := { name := "digestMacs", fn := fun _ => fun
  | [d1, d2] => { results := [.lit (.bool false)], args := [d1, d2] }
  | _ => none }
def DigestMacsWrongFalsely : Prop := digestMacsRow.holds Try.pinned (OpenSpec.ofChange digestMacsWrong)

/- THE SECOND FORM. 'bulk': how many values and letters a reading holds, each counted each time it is reached (what is shared counts as often as it is met; a slice's spare places count too). A statement '..UptoSaid' is the law's where the arguments, and the package variables that the reading takes, are together of bulk at most 1048576: NARROWER than '..Said'. Prove '..Said' where nothing that the law and all that it calls make is longer than what came in: it says more and counts as full. Else prove '..UptoSaid'. A law counts once. -/
mutual
def uptoBulk {H : Type} : DataW H → Nat
  | .lit (.string bytes) => bytes.length + 1
  | .lit _ => 1
  | .nil => 1
  | .ptr d => uptoBulk d + 1
  | .slice elems spare => uptoBulkAll elems + uptoBulkAll spare + 1
  | .agg parts => uptoBulkAll parts + 1
  | .iface _ d => uptoBulk d + 1
  | .map entries => uptoBulkEntries entries + 1
  | .held _ => 1
def uptoBulkAll {H : Type} : List (DataW H) → Nat
  | [] => 0
  | d :: r => uptoBulk d + uptoBulkAll r
def uptoBulkEntries {H : Type} : List (Lit × DataW H) → Nat
  | [] => 0
  | x :: r => uptoBulkEntry x + uptoBulkEntries r
def uptoBulkEntry {H : Type} : Lit × DataW H → Nat
  | (.string bytes, d) => bytes.length + uptoBulk d + 1
  | (_, d) => uptoBulk d + 1
 end
def uptoSmall : (H : Type) → List (DataW H) → Bool := fun _ ds => decide (uptoBulkAll ds ≤ 1048576)
def OpenSpec.upto (s : _root_.Go.ChangeSpec) : _root_.Go.OpenSpec := { _root_.Go.OpenSpec.ofChange s with cond := some uptoSmall }

/-- 'spandrellaw02.PrimeTrue', WHERE WHAT IT READS IS OF BULK AT MOST 1048576: true; the input reads as it did. -/
def primeTrueUptoRow : OpenClaim := { program := "ytljfjjfckepkdab", sum := "d4ac62090ef18f9115030f210455d525728397cc431f508fd6c6705b896680b1", func := "spandrel/spandrellaw02.PrimeTrue", spec := "primeTrue", named := ["math/bits.divideError", "math/bits.overflowError"], apart := false, narrowed := true }
def PrimeTrueUptoSaid : Prop := primeTrueUptoRow.holds Try.pinned (OpenSpec.upto primeTrueSpec)

/-- 'spandrellaw02.PrimeFermat', WHERE WHAT IT READS IS OF BULK AT MOST 1048576: true; the input reads as it did. -/
def primeFermatUptoRow : OpenClaim := { program := "ytljfjjfckepkdab", sum := "d4ac62090ef18f9115030f210455d525728397cc431f508fd6c6705b896680b1", func := "spandrel/spandrellaw02.PrimeFermat", spec := "primeFermat", named := ["math/bits.divideError", "math/bits.overflowError"], apart := false, narrowed := true }
def PrimeFermatUptoSaid : Prop := primeFermatUptoRow.holds Try.pinned (OpenSpec.upto primeFermatSpec)

/-- 'spandrellaw02.PrimeBegins', WHERE WHAT IT READS IS OF BULK AT MOST 1048576: true; the input reads as it did. -/
def primeBeginsUptoRow : OpenClaim := { program := "ytljfjjfckepkdab", sum := "d4ac62090ef18f9115030f210455d525728397cc431f508fd6c6705b896680b1", func := "spandrel/spandrellaw02.PrimeBegins", spec := "primeBegins", named := ["math/bits.divideError", "math/bits.overflowError"], apart := false, narrowed := true }
def PrimeBeginsUptoSaid : Prop := primeBeginsUptoRow.holds Try.pinned (OpenSpec.upto primeBeginsSpec)

/-- 'spandrellaw03.DigestMacs', WHERE WHAT IT READS IS OF BULK AT MOST 1048576: true; the input reads as it did. -/
def digestMacsUptoRow : OpenClaim := { program := "ytljfjjfckepkdab", sum := "d4ac62090ef18f9115030f210455d525728397cc431f508fd6c6705b896680b1", func := "spandrel/spandrellaw03.DigestMacs", spec := "digestMacs", inPlace := ["internal/abi.NoEscape", "internal/bytealg.MakeNoZero"], apart := false, narrowed := true }
def DigestMacsUptoSaid : Prop := digestMacsUptoRow.holds Try.pinned (OpenSpec.upto digestMacsSpec)

end Rows
end Go.Proofs.Ytljfjjfckepkdab
