/-
  No cell of these rows narrows 'for every input' (looked for: loops, veiled, ifaces, maps, wideKeys, modest, calm, conditions, laid).
  DERIVED. THE GIVEN ROWS OF THIS SEAT. 3 by the template 'for every input the law returns true; each argument reads behind the call as it read before'; 0 by the template 'total and deterministic' (their statements: YtaiffgkiliokfaaTotals.lean).
  GIVEN WITH THE SEED: the statements are not yours to turn. If you find one false, say at which input.
  Laid BY PROGRAM, IN A SANDBOX (cutbox-rows.mjs): the forced cells as the released guide's own fill.sh prints them over the translation f93da3a386825fd6… (all of the seat's roots in one cut). By AI agents, Wed Nov 11 2026. No macro, syntax, notation, axiom, sorry.
-/
import Derived.Test.YtaiffgkiliokfaaChecked
import GoSem.Claim
import GoSem.ClaimJoined
import GoSem.ClaimMapViews
import Derived.JoinedTies
import Derived.KernelRfl
namespace Go.Proofs.Ytaiffgkiliokfaa
/- THE CELL 'sum', in the pinned program and in every row, IS THE sha256 OF THE DUMP (.gsa) THAT YtaiffgkiliokfaaProg.lean LOADS. Nothing in Lean hashes anything: it is a label: what it is worth is what the hold of that sum in a sandbox is worth. -/
noncomputable def Try.pinned : Pinned := { name := "ytaiffgkiliokfaa", sum := "f93da3a386825fd601099a1983a3b947fe7b68ea3d5bf12a0651b9439c1121bb", checked := Try.checked }
namespace Rows
def none {H : Type} : Left H := { results := [], args := [] }

/-- 'tallymanlaw31.TapeSwaps': WHATEVER THE INPUT: true; the input reads as it did. -/
def tapeSwapsSpec : ChangeSpec := { name := "tapeSwaps", fn := fun _ => fun
  | [d1, d2, d3, d4, d5, d6, d7] => { results := [.lit (.bool true)], args := [d1, d2, d3, d4, d5, d6, d7] }
  | _ => none }
def tapeSwapsRow : OpenClaim := { program := "ytaiffgkiliokfaa", sum := "f93da3a386825fd601099a1983a3b947fe7b68ea3d5bf12a0651b9439c1121bb", func := "tallyman/tallymanlaw31.TapeSwaps", spec := "tapeSwaps", inPlace := ["math/bits.Sub64"], unfollowed := true, recurses := true, apart := false }
def TapeSwapsSaid : Prop := tapeSwapsRow.holds Try.pinned (OpenSpec.ofChange tapeSwapsSpec)

/-- ITS FALSE NEIGHBOUR: 'it returns false'. Refute it at one input. -/
def tapeSwapsWrong : ChangeSpec := { name := "tapeSwaps", fn := fun _ => fun
  | [d1, d2, d3, d4, d5, d6, d7] => { results := [.lit (.bool false)], args := [d1, d2, d3, d4, d5, d6, d7] }
  | _ => none }
def TapeSwapsWrongFalsely : Prop := tapeSwapsRow.holds Try.pinned (OpenSpec.ofChange tapeSwapsWrong)

/-- 'tallymanlaw31.TapeErrors': WHATEVER THE INPUT: true; the input reads as it did. -/
def tapeErrorsSpec : ChangeSpec := { name := "tapeErrors", fn := fun _ => fun
  | [d1, d2, d3, d4] => { results := [.lit (.bool true)], args := [d1, d2, d3, d4] }
  | _ => none }
def tapeErrorsRow : OpenClaim := { program := "ytaiffgkiliokfaa", sum := "f93da3a386825fd601099a1983a3b947fe7b68ea3d5bf12a0651b9439c1121bb", func := "tallyman/tallymanlaw31.TapeErrors", spec := "tapeErrors", inPlace := ["math/bits.Sub64"], unfollowed := true, recurses := true, apart := false }
def TapeErrorsSaid : Prop := tapeErrorsRow.holds Try.pinned (OpenSpec.ofChange tapeErrorsSpec)

/-- ITS FALSE NEIGHBOUR: 'it returns false'. Refute it at one input. -/
def tapeErrorsWrong : ChangeSpec := { name := "tapeErrors", fn := fun _ => fun
  | [d1, d2, d3, d4] => { results := [.lit (.bool false)], args := [d1, d2, d3, d4] }
  | _ => none }
def TapeErrorsWrongFalsely : Prop := tapeErrorsRow.holds Try.pinned (OpenSpec.ofChange tapeErrorsWrong)

/-- 'tallymanlaw31.TapeReports': WHATEVER THE INPUT: true; the input reads as it did. -/
def tapeReportsSpec : ChangeSpec := { name := "tapeReports", fn := fun _ => fun
  | [d1, d2, d3, d4, d5, d6] => { results := [.lit (.bool true)], args := [d1, d2, d3, d4, d5, d6] }
  | _ => none }
def tapeReportsRow : OpenClaim := { program := "ytaiffgkiliokfaa", sum := "f93da3a386825fd601099a1983a3b947fe7b68ea3d5bf12a0651b9439c1121bb", func := "tallyman/tallymanlaw31.TapeReports", spec := "tapeReports", inPlace := ["math/bits.Sub64"], unfollowed := true, recurses := true, apart := false }
def TapeReportsSaid : Prop := tapeReportsRow.holds Try.pinned (OpenSpec.ofChange tapeReportsSpec)

/-- ITS FALSE NEIGHBOUR: 'it returns false'. Refute it at one input. -/
def tapeReportsWrong : ChangeSpec := { name := "tapeReports", fn := fun _ => fun
  | [d1, d2, d3, d4, d5, d6] => { results := [.lit (.bool false)], args := [d1, d2, d3, d4, d5, d6] }
  | _ => none }
def TapeReportsWrongFalsely : Prop := tapeReportsRow.holds Try.pinned (OpenSpec.ofChange tapeReportsWrong)

/- THE SECOND FORM. 'bulk': how many values and letters a reading holds, each counted each time it is reached (what is shared counts as often as it is met; a slice's spare places count too). A statement '..UptoSaid' is the law's where the arguments, and the package variables that the reading takes, are together of bulk at most 1048576: NARROWER than '..Said'. Prove '..Said' where nothing that the law and all that it calls make is longer than what came in: it says more and counts as full. Else prove '..UptoSaid'. A law counts once. -/
mutual
def uptoBulk {H : Type} : DataW H → Nat
  | .lit (.string bytes) => bytes.length + 1
  | .lit _ => 1
  | .nil => 1
  | .ptr d => uptoBulk d + 1
  | .slice elems spare => uptoBulkAll elems + uptoBulkAll spare + 1
  | .agg parts => uptoBulkAll parts + 1
  | .iface _ d => uptoBulk d + 1
  | .map entries => uptoBulkEntries entries + 1
  | .held _ => 1
def uptoBulkAll {H : Type} : List (DataW H) → Nat
  | [] => 0
  | d :: r => uptoBulk d + uptoBulkAll r
def uptoBulkEntries {H : Type} : List (Lit × DataW H) → Nat
  | [] => 0
  | x :: r => uptoBulkEntry x + uptoBulkEntries r
def uptoBulkEntry {H : Type} : Lit × DataW H → Nat
  | (.string bytes, d) => bytes.length + uptoBulk d + 1
  | (_, d) => uptoBulk d + 1
 end
def uptoSmall : (H : Type) → List (DataW H) → Bool := fun _ ds => decide (uptoBulkAll ds ≤ 1048576)
def OpenSpec.upto (s : _root_.Go.ChangeSpec) : _root_.Go.OpenSpec := { _root_.Go.OpenSpec.ofChange s with cond := some uptoSmall }

/-- 'tallymanlaw31.TapeSwaps', WHERE WHAT IT READS IS OF BULK AT MOST 1048576: true; the input reads as it did. -/
def tapeSwapsUptoRow : OpenClaim := { program := "ytaiffgkiliokfaa", sum := "f93da3a386825fd601099a1983a3b947fe7b68ea3d5bf12a0651b9439c1121bb", func := "tallyman/tallymanlaw31.TapeSwaps", spec := "tapeSwaps", inPlace := ["math/bits.Sub64"], unfollowed := true, recurses := true, apart := false, narrowed := true }
def TapeSwapsUptoSaid : Prop := tapeSwapsUptoRow.holds Try.pinned (OpenSpec.upto tapeSwapsSpec)

/-- 'tallymanlaw31.TapeErrors', WHERE WHAT IT READS IS OF BULK AT MOST 1048576: true; the input reads as it did. -/
def tapeErrorsUptoRow : OpenClaim := { program := "ytaiffgkiliokfaa", sum := "f93da3a386825fd601099a1983a3b947fe7b68ea3d5bf12a0651b9439c1121bb", func := "tallyman/tallymanlaw31.TapeErrors", spec := "tapeErrors", inPlace := ["math/bits.Sub64"], unfollowed := true, recurses := true, apart := false, narrowed := true }
def TapeErrorsUptoSaid : Prop := tapeErrorsUptoRow.holds Try.pinned (OpenSpec.upto tapeErrorsSpec)

/-- 'tallymanlaw31.TapeReports', WHERE WHAT IT READS IS OF BULK AT MOST 1048576: true; the input reads as it did. -/
def tapeReportsUptoRow : OpenClaim := { program := "ytaiffgkiliokfaa", sum := "f93da3a386825fd601099a1983a3b947fe7b68ea3d5bf12a0651b9439c1121bb", func := "tallyman/tallymanlaw31.TapeReports", spec := "tapeReports", inPlace := ["math/bits.Sub64"], unfollowed := true, recurses := true, apart := false, narrowed := true }
def TapeReportsUptoSaid : Prop := tapeReportsUptoRow.holds Try.pinned (OpenSpec.upto tapeReportsSpec)

end Rows
end Go.Proofs.Ytaiffgkiliokfaa
