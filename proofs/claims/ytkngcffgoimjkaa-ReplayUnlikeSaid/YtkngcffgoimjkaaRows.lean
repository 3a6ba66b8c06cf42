/-
  No cell of these rows narrows 'for every input' (looked for: loops, veiled, ifaces, maps, wideKeys, modest, calm, conditions, laid).
  DERIVED. THE GIVEN ROWS OF THIS SEAT. 5 by the template 'for every input the law returns true; each argument reads behind the call as it read before'; 0 by the template 'total and deterministic' (their statements: YtkngcffgoimjkaaTotals.lean).
  GIVEN WITH THE SEED: the statements are not yours to turn. If you find one false, say at which input.
  Laid BY PROGRAM, IN A SANDBOX (cutbox-rows.mjs): the forced cells as the released guide's own fill.sh prints them over the translation aa23ab08092825eb… (all of the seat's roots in one cut). By AI agents, Wed Nov 11 2026. No macro, syntax, notation, axiom, sorry.
-/
import Derived.Test.YtkngcffgoimjkaaChecked
import GoSem.Claim
import GoSem.ClaimJoined
import GoSem.ClaimMapViews
import Derived.JoinedTies
import Derived.KernelRfl
namespace Go.Proofs.Ytkngcffgoimjkaa
/- THE CELL 'sum', in the pinned program and in every row, IS THE sha256 OF THE DUMP (.gsa) THAT YtkngcffgoimjkaaProg.lean LOADS. Nothing in Lean hashes anything: it is a label: what it is worth is what the hold of that sum in a sandbox is worth. -/
noncomputable def Try.pinned : Pinned := { name := "ytkngcffgoimjkaa", sum := "aa23ab08092825ebae0fcea254850f9041232260365d63c20e6885664a27f521", checked := Try.checked }
namespace Rows
def none {H : Type} : Left H := { results := [], args := [] }

/-- 'tallymanlaw18.ReplayPlays': WHATEVER THE INPUT: true; the input reads as it did. -/
def replayPlaysSpec : ChangeSpec := { name := "replayPlays", fn := fun _ => fun
  | [d1, d2, d3, d4] => { results := [.lit (.bool true)], args := [d1, d2, d3, d4] }
  | _ => none }
def replayPlaysRow : OpenClaim := { program := "ytkngcffgoimjkaa", sum := "aa23ab08092825ebae0fcea254850f9041232260365d63c20e6885664a27f521", func := "tallyman/tallymanlaw18.ReplayPlays", spec := "replayPlays", inPlace := ["internal/bytealg.Compare", "slices.overlaps[tallyman/replay.Seen]"], unfollowed := true, recurses := true, apart := false }
def ReplayPlaysSaid : Prop := replayPlaysRow.holds Try.pinned (OpenSpec.ofChange replayPlaysSpec)

/-- ITS FALSE NEIGHBOUR: 'it returns false'. Refute it at one input. -/
def replayPlaysWrong : ChangeSpec := { name := "replayPlays", fn := fun _ => fun
  | [d1, d2, d3, d4] => { results := [.lit (.bool false)], args := [d1, d2, d3, d4] }
  | _ => none }
def ReplayPlaysWrongFalsely : Prop := replayPlaysRow.holds Try.pinned (OpenSpec.ofChange replayPlaysWrong)

/-- 'tallymanlaw18.ReplayOnce': WHATEVER THE INPUT: true; the input reads as it did. -/
def replayOnceSpec : ChangeSpec := { name := "replayOnce", fn := fun _ => fun
  | [d] => { results := [.lit (.bool true)], args := [d] }
  | _ => none }
def replayOnceRow : OpenClaim := { program := "ytkngcffgoimjkaa", sum := "aa23ab08092825ebae0fcea254850f9041232260365d63c20e6885664a27f521", func := "tallyman/tallymanlaw18.ReplayOnce", spec := "replayOnce", inPlace := ["internal/bytealg.Compare", "slices.overlaps[tallyman/replay.Seen]"], unfollowed := true, recurses := true, apart := false }
def ReplayOnceSaid : Prop := replayOnceRow.holds Try.pinned (OpenSpec.ofChange replayOnceSpec)

/-- ITS FALSE NEIGHBOUR: 'it returns false'. Refute it at one input. -/
def replayOnceWrong : ChangeSpec := { name := "replayOnce", fn := fun _ => fun
  | [d] => { results := [.lit (.bool false)], args := [d] }
  | _ => none }
def ReplayOnceWrongFalsely : Prop := replayOnceRow.holds Try.pinned (OpenSpec.ofChange replayOnceWrong)

/-- 'tallymanlaw18.ReplayOrder': WHATEVER THE INPUT: true; the input reads as it did. -/
def replayOrderSpec : ChangeSpec := { name := "replayOrder", fn := fun _ => fun
  | [d1, d2] => { results := [.lit (.bool true)], args := [d1, d2] }
  | _ => none }
def replayOrderRow : OpenClaim := { program := "ytkngcffgoimjkaa", sum := "aa23ab08092825ebae0fcea254850f9041232260365d63c20e6885664a27f521", func := "tallyman/tallymanlaw18.ReplayOrder", spec := "replayOrder", inPlace := ["internal/bytealg.Compare", "slices.overlaps[tallyman/replay.Seen]"], unfollowed := true, recurses := true, apart := false }
def ReplayOrderSaid : Prop := replayOrderRow.holds Try.pinned (OpenSpec.ofChange replayOrderSpec)

/-- ITS FALSE NEIGHBOUR: 'it returns false'. Refute it at one input. -/
def replayOrderWrong : ChangeSpec := { name := "replayOrder", fn := fun _ => fun
  | [d1, d2] => { results := [.lit (.bool false)], args := [d1, d2] }
  | _ => none }
def ReplayOrderWrongFalsely : Prop := replayOrderRow.holds Try.pinned (OpenSpec.ofChange replayOrderWrong)

/-- 'tallymanlaw18.ReplayNone': WHATEVER THE INPUT: true; the input reads as it did. -/
def replayNoneSpec : ChangeSpec := { name := "replayNone", fn := fun _ => fun
  | [d1, d2, d3] => { results := [.lit (.bool true)], args := [d1, d2, d3] }
  | _ => none }
def replayNoneRow : OpenClaim := { program := "ytkngcffgoimjkaa", sum := "aa23ab08092825ebae0fcea254850f9041232260365d63c20e6885664a27f521", func := "tallyman/tallymanlaw18.ReplayNone", spec := "replayNone", inPlace := ["internal/bytealg.Compare", "slices.overlaps[tallyman/replay.Seen]"], unfollowed := true, recurses := true, apart := false }
def ReplayNoneSaid : Prop := replayNoneRow.holds Try.pinned (OpenSpec.ofChange replayNoneSpec)

/-- ITS FALSE NEIGHBOUR: 'it returns false'. Refute it at one input. -/
def replayNoneWrong : ChangeSpec := { name := "replayNone", fn := fun _ => fun
  | [d1, d2, d3] => { results := [.lit (.bool false)], args := [d1, d2, d3] }
  | _ => none }
def ReplayNoneWrongFalsely : Prop := replayNoneRow.holds Try.pinned (OpenSpec.ofChange replayNoneWrong)

/-- 'tallymanlaw18.ReplayUnlike': WHATEVER THE INPUT: true; the input reads as it did. -/
def replayUnlikeSpec : ChangeSpec := { name := "replayUnlike", fn := fun _ => fun
  | [d1, d2] => { results := [.lit (.bool true)], args := [d1, d2] }
  | _ => none }
def replayUnlikeRow : OpenClaim := { program := "ytkngcffgoimjkaa", sum := "aa23ab08092825ebae0fcea254850f9041232260365d63c20e6885664a27f521", func := "tallyman/tallymanlaw18.ReplayUnlike", spec := "replayUnlike", inPlace := ["internal/bytealg.Compare", "slices.overlaps[tallyman/replay.Seen]"], unfollowed := true, recurses := true, apart := false }
def ReplayUnlikeSaid : Prop := replayUnlikeRow.holds Try.pinned (OpenSpec.ofChange replayUnlikeSpec)

/-- ITS FALSE NEIGHBOUR: 'it returns false'. Refute it at one input. -/
def replayUnlikeWrong : ChangeSpec := { name := "replayUnlike", fn := fun _ => fun
  | [d1, d2] => { results := [.lit (.bool false)], args := [d1, d2] }
  | _ => none }
def ReplayUnlikeWrongFalsely : Prop := replayUnlikeRow.holds Try.pinned (OpenSpec.ofChange replayUnlikeWrong)

/- THE SECOND FORM. 'bulk': how many values and letters a reading holds, each counted each time it is reached (what is shared counts as often as it is met; a slice's spare places count too). A statement '..UptoSaid' is the law's where the arguments, and the package variables that the reading takes, are together of bulk at most 1048576: NARROWER than '..Said'. Prove '..Said' where nothing that the law and all that it calls make is longer than what came in: it says more and counts as full. Else prove '..UptoSaid'. A law counts once. -/
mutual
def uptoBulk {H : Type} : DataW H → Nat
  | .lit (.string bytes) => bytes.length + 1
  | .lit _ => 1
  | .nil => 1
  | .ptr d => uptoBulk d + 1
  | .slice elems spare => uptoBulkAll elems + uptoBulkAll spare + 1
  | .agg parts => uptoBulkAll parts + 1
  | .iface _ d => uptoBulk d + 1
  | .map entries => uptoBulkEntries entries + 1
  | .held _ => 1
def uptoBulkAll {H : Type} : List (DataW H) → Nat
  | [] => 0
  | d :: r => uptoBulk d + uptoBulkAll r
def uptoBulkEntries {H : Type} : List (Lit × DataW H) → Nat
  | [] => 0
  | x :: r => uptoBulkEntry x + uptoBulkEntries r
def uptoBulkEntry {H : Type} : Lit × DataW H → Nat
  | (.string bytes, d) => bytes.length + uptoBulk d + 1
  | (_, d) => uptoBulk d + 1
 end
def uptoSmall : (H : Type) → List (DataW H) → Bool := fun _ ds => decide (uptoBulkAll ds ≤ 1048576)
def OpenSpec.upto (s : _root_.Go.ChangeSpec) : _root_.Go.OpenSpec := { _root_.Go.OpenSpec.ofChange s with cond := some uptoSmall }

/-- 'tallymanlaw18.ReplayPlays', WHERE WHAT IT READS IS OF BULK AT MOST 1048576: true; the input reads as it did. -/
def replayPlaysUptoRow : OpenClaim := { program := "ytkngcffgoimjkaa", sum := "aa23ab08092825ebae0fcea254850f9041232260365d63c20e6885664a27f521", func := "tallyman/tallymanlaw18.ReplayPlays", spec := "replayPlays", inPlace := ["internal/bytealg.Compare", "slices.overlaps[tallyman/replay.Seen]"], unfollowed := true, recurses := true, apart := false, narrowed := true }
def ReplayPlaysUptoSaid : Prop := replayPlaysUptoRow.holds Try.pinned (OpenSpec.upto replayPlaysSpec)

/-- 'tallymanlaw18.ReplayOnce', WHERE WHAT IT READS IS OF BULK AT MOST 1048576: true; the input reads as it did. -/
def replayOnceUptoRow : OpenClaim := { program := "ytkngcffgoimjkaa", sum := "aa23ab08092825ebae0fcea254850f9041232260365d63c20e6885664a27f521", func := "tallyman/tallymanlaw18.ReplayOnce", spec := "replayOnce", inPlace := ["internal/bytealg.Compare", "slices.overlaps[tallyman/replay.Seen]"], unfollowed := true, recurses := true, apart := false, narrowed := true }
def ReplayOnceUptoSaid : Prop := replayOnceUptoRow.holds Try.pinned (OpenSpec.upto replayOnceSpec)

/-- 'tallymanlaw18.ReplayOrder', WHERE WHAT IT READS IS OF BULK AT MOST 1048576: true; the input reads as it did. -/
def replayOrderUptoRow : OpenClaim := { program := "ytkngcffgoimjkaa", sum := "aa23ab08092825ebae0fcea254850f9041232260365d63c20e6885664a27f521", func := "tallyman/tallymanlaw18.ReplayOrder", spec := "replayOrder", inPlace := ["internal/bytealg.Compare", "slices.overlaps[tallyman/replay.Seen]"], unfollowed := true, recurses := true, apart := false, narrowed := true }
def ReplayOrderUptoSaid : Prop := replayOrderUptoRow.holds Try.pinned (OpenSpec.upto replayOrderSpec)

/-- 'tallymanlaw18.ReplayNone', WHERE WHAT IT READS IS OF BULK AT MOST 1048576: true; the input reads as it did. -/
def replayNoneUptoRow : OpenClaim := { program := "ytkngcffgoimjkaa", sum := "aa23ab08092825ebae0fcea254850f9041232260365d63c20e6885664a27f521", func := "tallyman/tallymanlaw18.ReplayNone", spec := "replayNone", inPlace := ["internal/bytealg.Compare", "slices.overlaps[tallyman/replay.Seen]"], unfollowed := true, recurses := true, apart := false, narrowed := true }
def ReplayNoneUptoSaid : Prop := replayNoneUptoRow.holds Try.pinned (OpenSpec.upto replayNoneSpec)

/-- 'tallymanlaw18.ReplayUnlike', WHERE WHAT IT READS IS OF BULK AT MOST 1048576: true; the input reads as it did. -/
def replayUnlikeUptoRow : OpenClaim := { program := "ytkngcffgoimjkaa", sum := "aa23ab08092825ebae0fcea254850f9041232260365d63c20e6885664a27f521", func := "tallyman/tallymanlaw18.ReplayUnlike", spec := "replayUnlike", inPlace := ["internal/bytealg.Compare", "slices.overlaps[tallyman/replay.Seen]"], unfollowed := true, recurses := true, apart := false, narrowed := true }
def ReplayUnlikeUptoSaid : Prop := replayUnlikeUptoRow.holds Try.pinned (OpenSpec.upto replayUnlikeSpec)

end Rows
end Go.Proofs.Ytkngcffgoimjkaa
