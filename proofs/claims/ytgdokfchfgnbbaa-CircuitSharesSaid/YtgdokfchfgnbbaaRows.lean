/-
  No cell of these rows narrows 'for every input' (looked for: loops, veiled, ifaces, maps, wideKeys, modest, calm, conditions, laid).
  DERIVED. THE GIVEN ROWS OF THIS SEAT. 6 by the template 'for every input the law returns true; each argument reads behind the call as it read before'; 0 by the template 'total and deterministic' (their statements: YtgdokfchfgnbbaaTotals.lean).
  GIVEN WITH THE SEED: the statements are not yours to turn. If you find one false, say at which input.
  Laid BY PROGRAM, IN A SANDBOX (cutbox-rows.mjs): the forced cells as the released guide's own fill.sh prints them over the translation cdaca73996fbb2b7… (all of the seat's roots in one cut). By AI agents, Wed Nov 11 2026. No macro, syntax, notation, axiom, sorry.
-/
import Derived.Test.YtgdokfchfgnbbaaChecked
import GoSem.Claim
import GoSem.ClaimJoined
import GoSem.ClaimMapViews
import Derived.JoinedTies
import Derived.KernelRfl
namespace Go.Proofs.Ytgdokfchfgnbbaa
/- THE CELL 'sum', in the pinned program and in every row, IS THE sha256 OF THE DUMP (.gsa) THAT YtgdokfchfgnbbaaProg.lean LOADS. Nothing in Lean hashes anything: it is a label: what it is worth is what the hold of that sum in a sandbox is worth. -/
noncomputable def Try.pinned : Pinned := { name := "ytgdokfchfgnbbaa", sum := "cdaca73996fbb2b78889b6ac6d4a7cbacf9da0e025c33842ce243771f0d2f8bf", checked := Try.checked }
namespace Rows
def none {H : Type} : Left H := { results := [], args := [] }

/-- 'tallymanlaw10.CircuitSizes': WHATEVER THE INPUT: true; the input reads as it did. -/
def circuitSizesSpec : ChangeSpec := { name := "circuitSizes", fn := fun _ => fun
  | [d1, d2] => { results := [.lit (.bool true)], args := [d1, d2] }
  | _ => none }
def circuitSizesRow : OpenClaim := { program := "ytgdokfchfgnbbaa", sum := "cdaca73996fbb2b78889b6ac6d4a7cbacf9da0e025c33842ce243771f0d2f8bf", func := "tallyman/tallymanlaw10.CircuitSizes", spec := "circuitSizes", inPlace := ["math/bits.Sub64", "math/bits.Add64"], unfollowed := true, recurses := true, named := ["math/bits.divideError", "math/bits.overflowError"], apart := false }
def CircuitSizesSaid : Prop := circuitSizesRow.holds Try.pinned (OpenSpec.ofChange circuitSizesSpec)

/-- ITS FALSE NEIGHBOUR: 'it returns false'. Refute it at one input. -/
def circuitSizesWrong : ChangeSpec := { name := "circuitSizes", fn := fun _ => fun
  | [d1, d2] => { results := [.lit (.bool false)], args := [d1, d2] }
  | _ => none }
def CircuitSizesWrongFalsely : Prop := circuitSizesRow.holds Try.pinned (OpenSpec.ofChange circuitSizesWrong)

/-- 'tallymanlaw10.CircuitEncodes': WHATEVER THE INPUT: true; the input reads as it did. -/
def circuitEncodesSpec : ChangeSpec := { name := "circuitEncodes", fn := fun _ => fun
  | [d1, d2, d3] => { results := [.lit (.bool true)], args := [d1, d2, d3] }
  | _ => none }
def circuitEncodesRow : OpenClaim := { program := "ytgdokfchfgnbbaa", sum := "cdaca73996fbb2b78889b6ac6d4a7cbacf9da0e025c33842ce243771f0d2f8bf", func := "tallyman/tallymanlaw10.CircuitEncodes", spec := "circuitEncodes", inPlace := ["math/bits.Sub64", "math/bits.Add64"], unfollowed := true, recurses := true, named := ["math/bits.divideError", "math/bits.overflowError"], apart := false }
def CircuitEncodesSaid : Prop := circuitEncodesRow.holds Try.pinned (OpenSpec.ofChange circuitEncodesSpec)

/-- ITS FALSE NEIGHBOUR: 'it returns false'. Refute it at one input. -/
def circuitEncodesWrong : ChangeSpec := { name := "circuitEncodes", fn := fun _ => fun
  | [d1, d2, d3] => { results := [.lit (.bool false)], args := [d1, d2, d3] }
  | _ => none }
def CircuitEncodesWrongFalsely : Prop := circuitEncodesRow.holds Try.pinned (OpenSpec.ofChange circuitEncodesWrong)

/-- 'tallymanlaw10.CircuitValid': WHATEVER THE INPUT: true; the input reads as it did. -/
def circuitValidSpec : ChangeSpec := { name := "circuitValid", fn := fun _ => fun
  | [d1, d2, d3, d4] => { results := [.lit (.bool true)], args := [d1, d2, d3, d4] }
  | _ => none }
def circuitValidRow : OpenClaim := { program := "ytgdokfchfgnbbaa", sum := "cdaca73996fbb2b78889b6ac6d4a7cbacf9da0e025c33842ce243771f0d2f8bf", func := "tallyman/tallymanlaw10.CircuitValid", spec := "circuitValid", inPlace := ["math/bits.Sub64", "math/bits.Add64"], unfollowed := true, recurses := true, named := ["math/bits.divideError", "math/bits.overflowError"], apart := false }
def CircuitValidSaid : Prop := circuitValidRow.holds Try.pinned (OpenSpec.ofChange circuitValidSpec)

/-- ITS FALSE NEIGHBOUR: 'it returns false'. Refute it at one input. -/
def circuitValidWrong : ChangeSpec := { name := "circuitValid", fn := fun _ => fun
  | [d1, d2, d3, d4] => { results := [.lit (.bool false)], args := [d1, d2, d3, d4] }
  | _ => none }
def CircuitValidWrongFalsely : Prop := circuitValidRow.holds Try.pinned (OpenSpec.ofChange circuitValidWrong)

/-- 'tallymanlaw10.CircuitShares': WHATEVER THE INPUT: true; the input reads as it did. -/
def circuitSharesSpec : ChangeSpec := { name := "circuitShares", fn := fun _ => fun
  | [d1, d2, d3, d4, d5] => { results := [.lit (.bool true)], args := [d1, d2, d3, d4, d5] }
  | _ => none }
def circuitSharesRow : OpenClaim := { program := "ytgdokfchfgnbbaa", sum := "cdaca73996fbb2b78889b6ac6d4a7cbacf9da0e025c33842ce243771f0d2f8bf", func := "tallyman/tallymanlaw10.CircuitShares", spec := "circuitShares", inPlace := ["math/bits.Sub64", "math/bits.Add64"], unfollowed := true, recurses := true, named := ["math/bits.divideError", "math/bits.overflowError"], apart := false }
def CircuitSharesSaid : Prop := circuitSharesRow.holds Try.pinned (OpenSpec.ofChange circuitSharesSpec)

/-- ITS FALSE NEIGHBOUR: 'it returns false'. Refute it at one input. -/
def circuitSharesWrong : ChangeSpec := { name := "circuitShares", fn := fun _ => fun
  | [d1, d2, d3, d4, d5] => { results := [.lit (.bool false)], args := [d1, d2, d3, d4, d5] }
  | _ => none }
def CircuitSharesWrongFalsely : Prop := circuitSharesRow.holds Try.pinned (OpenSpec.ofChange circuitSharesWrong)

/-- 'tallymanlaw10.CircuitDecodes': WHATEVER THE INPUT: true; the input reads as it did. -/
def circuitDecodesSpec : ChangeSpec := { name := "circuitDecodes", fn := fun _ => fun
  | [d1, d2, d3, d4] => { results := [.lit (.bool true)], args := [d1, d2, d3, d4] }
  | _ => none }
def circuitDecodesRow : OpenClaim := { program := "ytgdokfchfgnbbaa", sum := "cdaca73996fbb2b78889b6ac6d4a7cbacf9da0e025c33842ce243771f0d2f8bf", func := "tallyman/tallymanlaw10.CircuitDecodes", spec := "circuitDecodes", inPlace := ["math/bits.Sub64", "math/bits.Add64"], unfollowed := true, recurses := true, named := ["math/bits.divideError", "math/bits.overflowError"], apart := false }
def CircuitDecodesSaid : Prop := circuitDecodesRow.holds Try.pinned (OpenSpec.ofChange circuitDecodesSpec)

/-- ITS FALSE NEIGHBOUR: 'it returns false'. Refute it at one input. -/
def circuitDecodesWrong : ChangeSpec := { name := "circuitDecodes", fn := fun _ => fun
  | [d1, d2, d3, d4] => { results := [.lit (.bool false)], args := [d1, d2, d3, d4] }
  | _ => none }
def CircuitDecodesWrongFalsely : Prop := circuitDecodesRow.holds Try.pinned (OpenSpec.ofChange circuitDecodesWrong)

/-- 'tallymanlaw10.CircuitErrors': WHATEVER THE INPUT: true; the input reads as it did. -/
def circuitErrorsSpec : ChangeSpec := { name := "circuitErrors", fn := fun _ => fun
  | [d1, d2, d3, d4, d5, d6] => { results := [.lit (.bool true)], args := [d1, d2, d3, d4, d5, d6] }
  | _ => none }
def circuitErrorsRow : OpenClaim := { program := "ytgdokfchfgnbbaa", sum := "cdaca73996fbb2b78889b6ac6d4a7cbacf9da0e025c33842ce243771f0d2f8bf", func := "tallyman/tallymanlaw10.CircuitErrors", spec := "circuitErrors", inPlace := ["math/bits.Sub64", "math/bits.Add64"], unfollowed := true, recurses := true, named := ["math/bits.divideError", "math/bits.overflowError"], apart := false }
def CircuitErrorsSaid : Prop := circuitErrorsRow.holds Try.pinned (OpenSpec.ofChange circuitErrorsSpec)

/-- ITS FALSE NEIGHBOUR: 'it returns false'. Refute it at one input. -/
def circuitErrorsWrong : ChangeSpec := { name := "circuitErrors", fn := fun _ => fun
  | [d1, d2, d3, d4, d5, d6] => { results := [.lit (.bool false)], args := [d1, d2, d3, d4, d5, d6] }
  | _ => none }
def CircuitErrorsWrongFalsely : Prop := circuitErrorsRow.holds Try.pinned (OpenSpec.ofChange circuitErrorsWrong)

/- THE SECOND FORM. 'bulk': how many values and letters a reading holds, each counted each time it is reached (what is shared counts as often as it is met; a slice's spare places count too). A statement '..UptoSaid' is the law's where the arguments, and the package variables that the reading takes, are together of bulk at most 1048576: NARROWER than '..Said'. Prove '..Said' where nothing that the law and all that it calls make is longer than what came in: it says more and counts as full. Else prove '..UptoSaid'. A law counts once. -/
mutual
def uptoBulk {H : Type} : DataW H → Nat
  | .lit (.string bytes) => bytes.length + 1
  | .lit _ => 1
  | .nil => 1
  | .ptr d => uptoBulk d + 1
  | .slice elems spare => uptoBulkAll elems + uptoBulkAll spare + 1
  | .agg parts => uptoBulkAll parts + 1
  | .iface _ d => uptoBulk d + 1
  | .map entries => uptoBulkEntries entries + 1
  | .held _ => 1
def uptoBulkAll {H : Type} : List (DataW H) → Nat
  | [] => 0
  | d :: r => uptoBulk d + uptoBulkAll r
def uptoBulkEntries {H : Type} : List (Lit × DataW H) → Nat
  | [] => 0
  | x :: r => uptoBulkEntry x + uptoBulkEntries r
def uptoBulkEntry {H : Type} : Lit × DataW H → Nat
  | (.string bytes, d) => bytes.length + uptoBulk d + 1
  | (_, d) => uptoBulk d + 1
 end
def uptoSmall : (H : Type) → List (DataW H) → Bool := fun _ ds => decide (uptoBulkAll ds ≤ 1048576)
def OpenSpec.upto (s : _root_.Go.ChangeSpec) : _root_.Go.OpenSpec := { _root_.Go.OpenSpec.ofChange s with cond := some uptoSmall }

/-- 'tallymanlaw10.CircuitSizes', WHERE WHAT IT READS IS OF BULK AT MOST 1048576: true; the input reads as it did. -/
def circuitSizesUptoRow : OpenClaim := { program := "ytgdokfchfgnbbaa", sum := "cdaca73996fbb2b78889b6ac6d4a7cbacf9da0e025c33842ce243771f0d2f8bf", func := "tallyman/tallymanlaw10.CircuitSizes", spec := "circuitSizes", inPlace := ["math/bits.Sub64", "math/bits.Add64"], unfollowed := true, recurses := true, named := ["math/bits.divideError", "math/bits.overflowError"], apart := false, narrowed := true }
def CircuitSizesUptoSaid : Prop := circuitSizesUptoRow.holds Try.pinned (OpenSpec.upto circuitSizesSpec)

/-- 'tallymanlaw10.CircuitEncodes', WHERE WHAT IT READS IS OF BULK AT MOST 1048576: true; the input reads as it did. -/
def circuitEncodesUptoRow : OpenClaim := { program := "ytgdokfchfgnbbaa", sum := "cdaca73996fbb2b78889b6ac6d4a7cbacf9da0e025c33842ce243771f0d2f8bf", func := "tallyman/tallymanlaw10.CircuitEncodes", spec := "circuitEncodes", inPlace := ["math/bits.Sub64", "math/bits.Add64"], unfollowed := true, recurses := true, named := ["math/bits.divideError", "math/bits.overflowError"], apart := false, narrowed := true }
def CircuitEncodesUptoSaid : Prop := circuitEncodesUptoRow.holds Try.pinned (OpenSpec.upto circuitEncodesSpec)

/-- 'tallymanlaw10.CircuitValid', WHERE WHAT IT READS IS OF BULK AT MOST 1048576: true; the input reads as it did. -/
def circuitValidUptoRow : OpenClaim := { program := "ytgdokfchfgnbbaa", sum := "cdaca73996fbb2b78889b6ac6d4a7cbacf9da0e025c33842ce243771f0d2f8bf", func := "tallyman/tallymanlaw10.CircuitValid", spec := "circuitValid", inPlace := ["math/bits.Sub64", "math/bits.Add64"], unfollowed := true, recurses := true, named := ["math/bits.divideError", "math/bits.overflowError"], apart := false, narrowed := true }
def CircuitValidUptoSaid : Prop := circuitValidUptoRow.holds Try.pinned (OpenSpec.upto circuitValidSpec)

/-- 'tallymanlaw10.CircuitShares', WHERE WHAT IT READS IS OF BULK AT MOST 1048576: true; the input reads as it did. -/
def circuitSharesUptoRow : OpenClaim := { program := "ytgdokfchfgnbbaa", sum := "cdaca73996fbb2b78889b6ac6d4a7cbacf9da0e025c33842ce243771f0d2f8bf", func := "tallyman/tallymanlaw10.CircuitShares", spec := "circuitShares", inPlace := ["math/bits.Sub64", "math/bits.Add64"], unfollowed := true, recurses := true, named := ["math/bits.divideError", "math/bits.overflowError"], apart := false, narrowed := true }
def CircuitSharesUptoSaid : Prop := circuitSharesUptoRow.holds Try.pinned (OpenSpec.upto circuitSharesSpec)

/-- 'tallymanlaw10.CircuitDecodes', WHERE WHAT IT READS IS OF BULK AT MOST 1048576: true; the input reads as it did. -/
def circuitDecodesUptoRow : OpenClaim := { program := "ytgdokfchfgnbbaa", sum := "cdaca73996fbb2b78889b6ac6d4a7cbacf9da0e025c33842ce243771f0d2f8bf", func := "tallyman/tallymanlaw10.CircuitDecodes", spec := "circuitDecodes", inPlace := ["math/bits.Sub64", "math/bits.Add64"], unfollowed := true, recurses := true, named := ["math/bits.divideError", "math/bits.overflowError"], apart := false, narrowed := true }
def CircuitDecodesUptoSaid : Prop := circuitDecodesUptoRow.holds Try.pinned (OpenSpec.upto circuitDecodesSpec)

/-- 'tallymanlaw10.CircuitErrors', WHERE WHAT IT READS IS OF BULK AT MOST 1048576: true; the input reads as it did. -/
def circuitErrorsUptoRow : OpenClaim := { program := "ytgdokfchfgnbbaa", sum := "cdaca73996fbb2b78889b6ac6d4a7cbacf9da0e025c33842ce243771f0d2f8bf", func := "tallyman/tallymanlaw10.CircuitErrors", spec := "circuitErrors", inPlace := ["math/bits.Sub64", "math/bits.Add64"], unfollowed := true, recurses := true, named := ["math/bits.divideError", "math/bits.overflowError"], apart := false, narrowed := true }
def CircuitErrorsUptoSaid : Prop := circuitErrorsUptoRow.holds Try.pinned (OpenSpec.upto circuitErrorsSpec)

end Rows
end Go.Proofs.Ytgdokfchfgnbbaa
