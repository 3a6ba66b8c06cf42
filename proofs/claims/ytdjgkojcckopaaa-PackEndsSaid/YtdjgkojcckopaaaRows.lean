/-
  No cell of these rows narrows 'for every input' (looked for: loops, veiled, ifaces, maps, wideKeys, modest, calm, conditions, laid).
  DERIVED. THE GIVEN ROWS OF THIS SEAT. 4 by the template 'for every input the law returns true; each argument reads behind the call as it read before'; 0 by the template 'total and deterministic' (their statements: YtdjgkojcckopaaaTotals.lean).
  GIVEN WITH THE SEED: the statements are not yours to turn. If you find one false, say at which input.
  Laid BY PROGRAM, IN A SANDBOX (cutbox-rows.mjs): the forced cells as the released guide's own fill.sh prints them over the translation 17c7bca6de32f5ea… (all of the seat's roots in one cut). By AI agents, Wed Nov 11 2026. No macro, syntax, notation, axiom, sorry.
-/
import Derived.Test.YtdjgkojcckopaaaChecked
import GoSem.Claim
import GoSem.ClaimJoined
import GoSem.ClaimMapViews
import Derived.JoinedTies
import Derived.KernelRfl
namespace Go.Proofs.Ytdjgkojcckopaaa
/- THE CELL 'sum', in the pinned program and in every row, IS THE sha256 OF THE DUMP (.gsa) THAT YtdjgkojcckopaaaProg.lean LOADS. Nothing in Lean hashes anything: it is a label: what it is worth is what the hold of that sum in a sandbox is worth. -/
noncomputable def Try.pinned : Pinned := { name := "ytdjgkojcckopaaa", sum := "17c7bca6de32f5eab5f05f4f1539cdddf619bf0d39d6965a0dd6d836d41b1cb2", checked := Try.checked }
namespace Rows
def none {H : Type} : Left H := { results := [], args := [] }

/-- 'tallymanlaw12.PackThings': WHATEVER THE INPUT: true; the input reads as it did. -/
def packThingsSpec : ChangeSpec := { name := "packThings", fn := fun _ => fun
  | [d1, d2] => { results := [.lit (.bool true)], args := [d1, d2] }
  | _ => none }
def packThingsRow : OpenClaim := { program := "ytdjgkojcckopaaa", sum := "17c7bca6de32f5eab5f05f4f1539cdddf619bf0d39d6965a0dd6d836d41b1cb2", func := "tallyman/tallymanlaw12.PackThings", spec := "packThings", unfollowed := true, recurses := true, apart := false }
def PackThingsSaid : Prop := packThingsRow.holds Try.pinned (OpenSpec.ofChange packThingsSpec)

/-- ITS FALSE NEIGHBOUR: 'it returns false'. Refute it at one input. -/
def packThingsWrong : ChangeSpec := { name := "packThings", fn := fun _ => fun
  | [d1, d2] => { results := [.lit (.bool false)], args := [d1, d2] }
  | _ => none }
def PackThingsWrongFalsely : Prop := packThingsRow.holds Try.pinned (OpenSpec.ofChange packThingsWrong)

/-- 'tallymanlaw12.PackEnds': WHATEVER THE INPUT: true; the input reads as it did. -/
def packEndsSpec : ChangeSpec := { name := "packEnds", fn := fun _ => fun
  | [d1, d2, d3, d4, d5] => { results := [.lit (.bool true)], args := [d1, d2, d3, d4, d5] }
  | _ => none }
def packEndsRow : OpenClaim := { program := "ytdjgkojcckopaaa", sum := "17c7bca6de32f5eab5f05f4f1539cdddf619bf0d39d6965a0dd6d836d41b1cb2", func := "tallyman/tallymanlaw12.PackEnds", spec := "packEnds", unfollowed := true, recurses := true, apart := false }
def PackEndsSaid : Prop := packEndsRow.holds Try.pinned (OpenSpec.ofChange packEndsSpec)

/-- ITS FALSE NEIGHBOUR: 'it returns false'. Refute it at one input. -/
def packEndsWrong : ChangeSpec := { name := "packEnds", fn := fun _ => fun
  | [d1, d2, d3, d4, d5] => { results := [.lit (.bool false)], args := [d1, d2, d3, d4, d5] }
  | _ => none }
def PackEndsWrongFalsely : Prop := packEndsRow.holds Try.pinned (OpenSpec.ofChange packEndsWrong)

/-- 'tallymanlaw12.PackCounts': WHATEVER THE INPUT: true; the input reads as it did. -/
def packCountsSpec : ChangeSpec := { name := "packCounts", fn := fun _ => fun
  | [d1, d2, d3] => { results := [.lit (.bool true)], args := [d1, d2, d3] }
  | _ => none }
def packCountsRow : OpenClaim := { program := "ytdjgkojcckopaaa", sum := "17c7bca6de32f5eab5f05f4f1539cdddf619bf0d39d6965a0dd6d836d41b1cb2", func := "tallyman/tallymanlaw12.PackCounts", spec := "packCounts", unfollowed := true, recurses := true, apart := false }
def PackCountsSaid : Prop := packCountsRow.holds Try.pinned (OpenSpec.ofChange packCountsSpec)

/-- ITS FALSE NEIGHBOUR: 'it returns false'. Refute it at one input. -/
def packCountsWrong : ChangeSpec := { name := "packCounts", fn := fun _ => fun
  | [d1, d2, d3] => { results := [.lit (.bool false)], args := [d1, d2, d3] }
  | _ => none }
def PackCountsWrongFalsely : Prop := packCountsRow.holds Try.pinned (OpenSpec.ofChange packCountsWrong)

/-- 'tallymanlaw12.PackOutside': WHATEVER THE INPUT: true; the input reads as it did. -/
def packOutsideSpec : ChangeSpec := { name := "packOutside", fn := fun _ => fun
  | [d1, d2, d3] => { results := [.lit (.bool true)], args := [d1, d2, d3] }
  | _ => none }
def packOutsideRow : OpenClaim := { program := "ytdjgkojcckopaaa", sum := "17c7bca6de32f5eab5f05f4f1539cdddf619bf0d39d6965a0dd6d836d41b1cb2", func := "tallyman/tallymanlaw12.PackOutside", spec := "packOutside", unfollowed := true, recurses := true, apart := false }
def PackOutsideSaid : Prop := packOutsideRow.holds Try.pinned (OpenSpec.ofChange packOutsideSpec)

/-- ITS FALSE NEIGHBOUR: 'it returns false'. Refute it at one input. -/
def packOutsideWrong : ChangeSpec := { name := "packOutside", fn := fun _ => fun
  | [d1, d2, d3] => { results := [.lit (.bool false)], args := [d1, d2, d3] }
  | _ => none }
def PackOutsideWrongFalsely : Prop := packOutsideRow.holds Try.pinned (OpenSpec.ofChange packOutsideWrong)

/- THE SECOND FORM. 'bulk': how many values and letters a reading holds, each counted each time it is reached (what is shared counts as often as it is met; a slice's spare places count too). A statement '..UptoSaid' is the law's where the arguments, and the package variables that the reading takes, are together of bulk at most 1048576: NARROWER than '..Said'. Prove '..Said' where nothing that the law and all that it calls make is longer than what came in: it says more and counts as full. Else prove '..UptoSaid'. A law counts once. -/
mutual
def uptoBulk {H : Type} : DataW H → Nat
  | .lit (.string bytes) => bytes.length + 1
  | .lit _ => 1
  | .nil => 1
  | .ptr d => uptoBulk d + 1
  | .slice elems spare => uptoBulkAll elems + uptoBulkAll spare + 1
  | .agg parts => uptoBulkAll parts + 1
  | .iface _ d => uptoBulk d + 1
  | .map entries => uptoBulkEntries entries + 1
  | .held _ => 1
def uptoBulkAll {H : Type} : List (DataW H) → Nat
  | [] => 0
  | d :: r => uptoBulk d + uptoBulkAll r
def uptoBulkEntries {H : Type} : List (Lit × DataW H) → Nat
  | [] => 0
  | x :: r => uptoBulkEntry x + uptoBulkEntries r
def uptoBulkEntry {H : Type} : Lit × DataW H → Nat
  | (.string bytes, d) => bytes.length + uptoBulk d + 1
  | (_, d) => uptoBulk d + 1
 end
def uptoSmall : (H : Type) → List (DataW H) → Bool := fun _ ds => decide (uptoBulkAll ds ≤ 1048576)
def OpenSpec.upto (s : _root_.Go.ChangeSpec) : _root_.Go.OpenSpec := { _root_.Go.OpenSpec.ofChange s with cond := some uptoSmall }

/-- 'tallymanlaw12.PackThings', WHERE WHAT IT READS IS OF BULK AT MOST 1048576: true; the input reads as it did. -/
def packThingsUptoRow : OpenClaim := { program := "ytdjgkojcckopaaa", sum := "17c7bca6de32f5eab5f05f4f1539cdddf619bf0d39d6965a0dd6d836d41b1cb2", func := "tallyman/tallymanlaw12.PackThings", spec := "packThings", unfollowed := true, recurses := true, apart := false, narrowed := true }
def PackThingsUptoSaid : Prop := packThingsUptoRow.holds Try.pinned (OpenSpec.upto packThingsSpec)

/-- 'tallymanlaw12.PackEnds', WHERE WHAT IT READS IS OF BULK AT MOST 1048576: true; the input reads as it did. -/
def packEndsUptoRow : OpenClaim := { program := "ytdjgkojcckopaaa", sum := "17c7bca6de32f5eab5f05f4f1539cdddf619bf0d39d6965a0dd6d836d41b1cb2", func := "tallyman/tallymanlaw12.PackEnds", spec := "packEnds", unfollowed := true, recurses := true, apart := false, narrowed := true }
def PackEndsUptoSaid : Prop := packEndsUptoRow.holds Try.pinned (OpenSpec.upto packEndsSpec)

/-- 'tallymanlaw12.PackCounts', WHERE WHAT IT READS IS OF BULK AT MOST 1048576: true; the input reads as it did. -/
def packCountsUptoRow : OpenClaim := { program := "ytdjgkojcckopaaa", sum := "17c7bca6de32f5eab5f05f4f1539cdddf619bf0d39d6965a0dd6d836d41b1cb2", func := "tallyman/tallymanlaw12.PackCounts", spec := "packCounts", unfollowed := true, recurses := true, apart := false, narrowed := true }
def PackCountsUptoSaid : Prop := packCountsUptoRow.holds Try.pinned (OpenSpec.upto packCountsSpec)

/-- 'tallymanlaw12.PackOutside', WHERE WHAT IT READS IS OF BULK AT MOST 1048576: true; the input reads as it did. -/
def packOutsideUptoRow : OpenClaim := { program := "ytdjgkojcckopaaa", sum := "17c7bca6de32f5eab5f05f4f1539cdddf619bf0d39d6965a0dd6d836d41b1cb2", func := "tallyman/tallymanlaw12.PackOutside", spec := "packOutside", unfollowed := true, recurses := true, apart := false, narrowed := true }
def PackOutsideUptoSaid : Prop := packOutsideUptoRow.holds Try.pinned (OpenSpec.upto packOutsideSpec)

end Rows
end Go.Proofs.Ytdjgkojcckopaaa
