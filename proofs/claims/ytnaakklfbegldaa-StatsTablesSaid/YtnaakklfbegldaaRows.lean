/-
  No cell of these rows narrows 'for every input' (looked for: loops, veiled, ifaces, maps, wideKeys, modest, calm, conditions, laid).
  DERIVED. THE GIVEN ROWS OF THIS SEAT. 6 by the template 'for every input the law returns true; each argument reads behind the call as it read before'; 0 by the template 'total and deterministic' (their statements: YtnaakklfbegldaaTotals.lean).
  GIVEN WITH THE SEED: the statements are not yours to turn. If you find one false, say at which input.
  Laid BY PROGRAM, IN A SANDBOX (cutbox-rows.mjs): the forced cells as the released guide's own fill.sh prints them over the translation b7b407f749d44597… (all of the seat's roots in one cut). By AI agents, Wed Nov 11 2026. No macro, syntax, notation, axiom, sorry.
-/
import Derived.Test.YtnaakklfbegldaaChecked
import GoSem.Claim
import GoSem.ClaimJoined
import GoSem.ClaimMapViews
import Derived.JoinedTies
import Derived.KernelRfl
namespace Go.Proofs.Ytnaakklfbegldaa
/- THE CELL 'sum', in the pinned program and in every row, IS THE sha256 OF THE DUMP (.gsa) THAT YtnaakklfbegldaaProg.lean LOADS. Nothing in Lean hashes anything: it is a label: what it is worth is what the hold of that sum in a sandbox is worth. -/
noncomputable def Try.pinned : Pinned := { name := "ytnaakklfbegldaa", sum := "b7b407f749d445977230d4ca9ad6c2431c5b21dc01e36e28ebbffc1f1ac55662", checked := Try.checked }
namespace Rows
def none {H : Type} : Left H := { results := [], args := [] }

/-- 'tallymanlaw30.StatsTables': WHATEVER THE INPUT: true; the input reads as it did. -/
def statsTablesSpec : ChangeSpec := { name := "statsTables", fn := fun _ => fun
  | [d1, d2, d3] => { results := [.lit (.bool true)], args := [d1, d2, d3] }
  | _ => none }
def statsTablesRow : OpenClaim := { program := "ytnaakklfbegldaa", sum := "b7b407f749d445977230d4ca9ad6c2431c5b21dc01e36e28ebbffc1f1ac55662", func := "tallyman/tallymanlaw30.StatsTables", spec := "statsTables", inPlace := ["math.Float64frombits", "math.Float64bits", "slices.overlaps[tallyman/stats.Row]"], unfollowed := true, recurses := true, apart := false }
def StatsTablesSaid : Prop := statsTablesRow.holds Try.pinned (OpenSpec.ofChange statsTablesSpec)

/-- ITS FALSE NEIGHBOUR: 'it returns false'. Refute it at one input. -/
def statsTablesWrong : ChangeSpec := { name := "statsTables", fn := fun _ => fun
  | [d1, d2, d3] => { results := [.lit (.bool false)], args := [d1, d2, d3] }
  | _ => none }
def StatsTablesWrongFalsely : Prop := statsTablesRow.holds Try.pinned (OpenSpec.ofChange statsTablesWrong)

/-- 'tallymanlaw30.StatsSummaries': WHATEVER THE INPUT: true; the input reads as it did. -/
def statsSummariesSpec : ChangeSpec := { name := "statsSummaries", fn := fun _ => fun
  | [d] => { results := [.lit (.bool true)], args := [d] }
  | _ => none }
def statsSummariesRow : OpenClaim := { program := "ytnaakklfbegldaa", sum := "b7b407f749d445977230d4ca9ad6c2431c5b21dc01e36e28ebbffc1f1ac55662", func := "tallyman/tallymanlaw30.StatsSummaries", spec := "statsSummaries", inPlace := ["math.Float64frombits", "math.Float64bits"], unfollowed := true, recurses := true, apart := false }
def StatsSummariesSaid : Prop := statsSummariesRow.holds Try.pinned (OpenSpec.ofChange statsSummariesSpec)

/-- ITS FALSE NEIGHBOUR: 'it returns false'. Refute it at one input. -/
def statsSummariesWrong : ChangeSpec := { name := "statsSummaries", fn := fun _ => fun
  | [d] => { results := [.lit (.bool false)], args := [d] }
  | _ => none }
def StatsSummariesWrongFalsely : Prop := statsSummariesRow.holds Try.pinned (OpenSpec.ofChange statsSummariesWrong)

/-- 'tallymanlaw30.StatsClamps': WHATEVER THE INPUT: true; the input reads as it did. -/
def statsClampsSpec : ChangeSpec := { name := "statsClamps", fn := fun _ => fun
  | [d1, d2, d3, d4] => { results := [.lit (.bool true)], args := [d1, d2, d3, d4] }
  | _ => none }
def statsClampsRow : OpenClaim := { program := "ytnaakklfbegldaa", sum := "b7b407f749d445977230d4ca9ad6c2431c5b21dc01e36e28ebbffc1f1ac55662", func := "tallyman/tallymanlaw30.StatsClamps", spec := "statsClamps", inPlace := ["math.Float64frombits", "math.Float64bits"], unfollowed := true, recurses := true, apart := false }
def StatsClampsSaid : Prop := statsClampsRow.holds Try.pinned (OpenSpec.ofChange statsClampsSpec)

/-- ITS FALSE NEIGHBOUR: 'it returns false'. Refute it at one input. -/
def statsClampsWrong : ChangeSpec := { name := "statsClamps", fn := fun _ => fun
  | [d1, d2, d3, d4] => { results := [.lit (.bool false)], args := [d1, d2, d3, d4] }
  | _ => none }
def StatsClampsWrongFalsely : Prop := statsClampsRow.holds Try.pinned (OpenSpec.ofChange statsClampsWrong)

/-- 'tallymanlaw30.StatsHistograms': WHATEVER THE INPUT: true; the input reads as it did. -/
def statsHistogramsSpec : ChangeSpec := { name := "statsHistograms", fn := fun _ => fun
  | [d1, d2, d3, d4] => { results := [.lit (.bool true)], args := [d1, d2, d3, d4] }
  | _ => none }
def statsHistogramsRow : OpenClaim := { program := "ytnaakklfbegldaa", sum := "b7b407f749d445977230d4ca9ad6c2431c5b21dc01e36e28ebbffc1f1ac55662", func := "tallyman/tallymanlaw30.StatsHistograms", spec := "statsHistograms", inPlace := ["math.Float64frombits", "math.Float64bits", "math.archFloor", "math.archTrunc"], unfollowed := true, recurses := true, apart := false }
def StatsHistogramsSaid : Prop := statsHistogramsRow.holds Try.pinned (OpenSpec.ofChange statsHistogramsSpec)

/-- ITS FALSE NEIGHBOUR: 'it returns false'. Refute it at one input. -/
def statsHistogramsWrong : ChangeSpec := { name := "statsHistograms", fn := fun _ => fun
  | [d1, d2, d3, d4] => { results := [.lit (.bool false)], args := [d1, d2, d3, d4] }
  | _ => none }
def StatsHistogramsWrongFalsely : Prop := statsHistogramsRow.holds Try.pinned (OpenSpec.ofChange statsHistogramsWrong)

/-- 'tallymanlaw30.StatsNone': WHATEVER THE INPUT: true; the input reads as it did. -/
def statsNoneSpec : ChangeSpec := { name := "statsNone", fn := fun _ => fun
  | [d1, d2] => { results := [.lit (.bool true)], args := [d1, d2] }
  | _ => none }
def statsNoneRow : OpenClaim := { program := "ytnaakklfbegldaa", sum := "b7b407f749d445977230d4ca9ad6c2431c5b21dc01e36e28ebbffc1f1ac55662", func := "tallyman/tallymanlaw30.StatsNone", spec := "statsNone", inPlace := ["math.Float64frombits", "math.Float64bits", "slices.overlaps[tallyman/stats.Row]"], unfollowed := true, recurses := true, apart := false }
def StatsNoneSaid : Prop := statsNoneRow.holds Try.pinned (OpenSpec.ofChange statsNoneSpec)

/-- ITS FALSE NEIGHBOUR: 'it returns false'. Refute it at one input. -/
def statsNoneWrong : ChangeSpec := { name := "statsNone", fn := fun _ => fun
  | [d1, d2] => { results := [.lit (.bool false)], args := [d1, d2] }
  | _ => none }
def StatsNoneWrongFalsely : Prop := statsNoneRow.holds Try.pinned (OpenSpec.ofChange statsNoneWrong)

/-- 'tallymanlaw30.StatsParts': WHATEVER THE INPUT: true; the input reads as it did. -/
def statsPartsSpec : ChangeSpec := { name := "statsParts", fn := fun _ => fun
  | [d1, d2, d3] => { results := [.lit (.bool true)], args := [d1, d2, d3] }
  | _ => none }
def statsPartsRow : OpenClaim := { program := "ytnaakklfbegldaa", sum := "b7b407f749d445977230d4ca9ad6c2431c5b21dc01e36e28ebbffc1f1ac55662", func := "tallyman/tallymanlaw30.StatsParts", spec := "statsParts", inPlace := ["math.Float64frombits", "math.Float64bits", "math.archFloor", "math.archTrunc"], unfollowed := true, recurses := true, apart := false }
def StatsPartsSaid : Prop := statsPartsRow.holds Try.pinned (OpenSpec.ofChange statsPartsSpec)

/-- ITS FALSE NEIGHBOUR: 'it returns false'. Refute it at one input. -/
def statsPartsWrong : ChangeSpec := { name := "statsParts", fn := fun _ => fun
  | [d1, d2, d3] => { results := [.lit (.bool false)], args := [d1, d2, d3] }
  | _ => none }
def StatsPartsWrongFalsely : Prop := statsPartsRow.holds Try.pinned (OpenSpec.ofChange statsPartsWrong)

/- THE SECOND FORM. 'bulk': how many values and letters a reading holds, each counted each time it is reached (what is shared counts as often as it is met; a slice's spare places count too). A statement '..UptoSaid' is the law's where the arguments, and the package variables that the reading takes, are together of bulk at most 1048576: NARROWER than '..Said'. Prove '..Said' where nothing that the law and all that it calls make is longer than what came in: it says more and counts as full. Else prove '..UptoSaid'. A law counts once. -/
mutual
def uptoBulk {H : Type} : DataW H → Nat
  | .lit (.string bytes) => bytes.length + 1
  | .lit _ => 1
  | .nil => 1
  | .ptr d => uptoBulk d + 1
  | .slice elems spare => uptoBulkAll elems + uptoBulkAll spare + 1
  | .agg parts => uptoBulkAll parts + 1
  | .iface _ d => uptoBulk d + 1
  | .map entries => uptoBulkEntries entries + 1
  | .held _ => 1
def uptoBulkAll {H : Type} : List (DataW H) → Nat
  | [] => 0
  | d :: r => uptoBulk d + uptoBulkAll r
def uptoBulkEntries {H : Type} : List (Lit × DataW H) → Nat
  | [] => 0
  | x :: r => uptoBulkEntry x + uptoBulkEntries r
def uptoBulkEntry {H : Type} : Lit × DataW H → Nat
  | (.string bytes, d) => bytes.length + uptoBulk d + 1
  | (_, d) => uptoBulk d + 1
 end
def uptoSmall : (H : Type) → List (DataW H) → Bool := fun _ ds => decide (uptoBulkAll ds ≤ 1048576)
def OpenSpec.upto (s : _root_.Go.ChangeSpec) : _root_.Go.OpenSpec := { _root_.Go.OpenSpec.ofChange s with cond := some uptoSmall }

/-- 'tallymanlaw30.StatsTables', WHERE WHAT IT READS IS OF BULK AT MOST 1048576: true; the input reads as it did. -/
def statsTablesUptoRow : OpenClaim := { program := "ytnaakklfbegldaa", sum := "b7b407f749d445977230d4ca9ad6c2431c5b21dc01e36e28ebbffc1f1ac55662", func := "tallyman/tallymanlaw30.StatsTables", spec := "statsTables", inPlace := ["math.Float64frombits", "math.Float64bits", "slices.overlaps[tallyman/stats.Row]"], unfollowed := true, recurses := true, apart := false, narrowed := true }
def StatsTablesUptoSaid : Prop := statsTablesUptoRow.holds Try.pinned (OpenSpec.upto statsTablesSpec)

/-- 'tallymanlaw30.StatsSummaries', WHERE WHAT IT READS IS OF BULK AT MOST 1048576: true; the input reads as it did. -/
def statsSummariesUptoRow : OpenClaim := { program := "ytnaakklfbegldaa", sum := "b7b407f749d445977230d4ca9ad6c2431c5b21dc01e36e28ebbffc1f1ac55662", func := "tallyman/tallymanlaw30.StatsSummaries", spec := "statsSummaries", inPlace := ["math.Float64frombits", "math.Float64bits"], unfollowed := true, recurses := true, apart := false, narrowed := true }
def StatsSummariesUptoSaid : Prop := statsSummariesUptoRow.holds Try.pinned (OpenSpec.upto statsSummariesSpec)

/-- 'tallymanlaw30.StatsClamps', WHERE WHAT IT READS IS OF BULK AT MOST 1048576: true; the input reads as it did. -/
def statsClampsUptoRow : OpenClaim := { program := "ytnaakklfbegldaa", sum := "b7b407f749d445977230d4ca9ad6c2431c5b21dc01e36e28ebbffc1f1ac55662", func := "tallyman/tallymanlaw30.StatsClamps", spec := "statsClamps", inPlace := ["math.Float64frombits", "math.Float64bits"], unfollowed := true, recurses := true, apart := false, narrowed := true }
def StatsClampsUptoSaid : Prop := statsClampsUptoRow.holds Try.pinned (OpenSpec.upto statsClampsSpec)

/-- 'tallymanlaw30.StatsHistograms', WHERE WHAT IT READS IS OF BULK AT MOST 1048576: true; the input reads as it did. -/
def statsHistogramsUptoRow : OpenClaim := { program := "ytnaakklfbegldaa", sum := "b7b407f749d445977230d4ca9ad6c2431c5b21dc01e36e28ebbffc1f1ac55662", func := "tallyman/tallymanlaw30.StatsHistograms", spec := "statsHistograms", inPlace := ["math.Float64frombits", "math.Float64bits", "math.archFloor", "math.archTrunc"], unfollowed := true, recurses := true, apart := false, narrowed := true }
def StatsHistogramsUptoSaid : Prop := statsHistogramsUptoRow.holds Try.pinned (OpenSpec.upto statsHistogramsSpec)

/-- 'tallymanlaw30.StatsNone', WHERE WHAT IT READS IS OF BULK AT MOST 1048576: true; the input reads as it did. -/
def statsNoneUptoRow : OpenClaim := { program := "ytnaakklfbegldaa", sum := "b7b407f749d445977230d4ca9ad6c2431c5b21dc01e36e28ebbffc1f1ac55662", func := "tallyman/tallymanlaw30.StatsNone", spec := "statsNone", inPlace := ["math.Float64frombits", "math.Float64bits", "slices.overlaps[tallyman/stats.Row]"], unfollowed := true, recurses := true, apart := false, narrowed := true }
def StatsNoneUptoSaid : Prop := statsNoneUptoRow.holds Try.pinned (OpenSpec.upto statsNoneSpec)

/-- 'tallymanlaw30.StatsParts', WHERE WHAT IT READS IS OF BULK AT MOST 1048576: true; the input reads as it did. -/
def statsPartsUptoRow : OpenClaim := { program := "ytnaakklfbegldaa", sum := "b7b407f749d445977230d4ca9ad6c2431c5b21dc01e36e28ebbffc1f1ac55662", func := "tallyman/tallymanlaw30.StatsParts", spec := "statsParts", inPlace := ["math.Float64frombits", "math.Float64bits", "math.archFloor", "math.archTrunc"], unfollowed := true, recurses := true, apart := false, narrowed := true }
def StatsPartsUptoSaid : Prop := statsPartsUptoRow.holds Try.pinned (OpenSpec.upto statsPartsSpec)

end Rows
end Go.Proofs.Ytnaakklfbegldaa
