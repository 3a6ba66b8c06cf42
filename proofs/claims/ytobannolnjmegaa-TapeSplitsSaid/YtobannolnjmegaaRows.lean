/-
  No cell of these rows narrows 'for every input' (looked for: loops, veiled, ifaces, maps, wideKeys, modest, calm, conditions, laid).
  DERIVED. THE GIVEN ROWS OF THIS SEAT. 3 by the template 'for every input the law returns true; each argument reads behind the call as it read before'; 0 by the template 'total and deterministic' (their statements: YtobannolnjmegaaTotals.lean).
  GIVEN WITH THE SEED: the statements are not yours to turn. If you find one false, say at which input.
  Laid BY PROGRAM, IN A SANDBOX (cutbox-rows.mjs): the forced cells as the released guide's own fill.sh prints them over the translation 8519a166d0607745… (all of the seat's roots in one cut). By AI agents, Wed Nov 11 2026. No macro, syntax, notation, axiom, sorry.
-/
import Derived.Test.YtobannolnjmegaaChecked
import GoSem.Claim
import GoSem.ClaimJoined
import GoSem.ClaimMapViews
import Derived.JoinedTies
import Derived.KernelRfl
namespace Go.Proofs.Ytobannolnjmegaa
/- THE CELL 'sum', in the pinned program and in every row, IS THE sha256 OF THE DUMP (.gsa) THAT YtobannolnjmegaaProg.lean LOADS. Nothing in Lean hashes anything: it is a label: what it is worth is what the hold of that sum in a sandbox is worth. -/
noncomputable def Try.pinned : Pinned := { name := "ytobannolnjmegaa", sum := "8519a166d060774504b73ebbf8729557e08911ba1eee37d9f4d68aa7e5e05823", checked := Try.checked }
namespace Rows
def none {H : Type} : Left H := { results := [], args := [] }

/-- 'tallymanlaw31.TapeSplits': WHATEVER THE INPUT: true; the input reads as it did. -/
def tapeSplitsSpec : ChangeSpec := { name := "tapeSplits", fn := fun _ => fun
  | [d1, d2, d3, d4] => { results := [.lit (.bool true)], args := [d1, d2, d3, d4] }
  | _ => none }
def tapeSplitsRow : OpenClaim := { program := "ytobannolnjmegaa", sum := "8519a166d060774504b73ebbf8729557e08911ba1eee37d9f4d68aa7e5e05823", func := "tallyman/tallymanlaw31.TapeSplits", spec := "tapeSplits", inPlace := ["math/bits.Sub64"], unfollowed := true, recurses := true, apart := false }
def TapeSplitsSaid : Prop := tapeSplitsRow.holds Try.pinned (OpenSpec.ofChange tapeSplitsSpec)

/-- ITS FALSE NEIGHBOUR: 'it returns false'. Refute it at one input. -/
def tapeSplitsWrong : ChangeSpec := { name := "tapeSplits", fn := fun _ => fun
  | [d1, d2, d3, d4] => { results := [.lit (.bool false)], args := [d1, d2, d3, d4] }
  | _ => none }
def TapeSplitsWrongFalsely : Prop := tapeSplitsRow.holds Try.pinned (OpenSpec.ofChange tapeSplitsWrong)

/-- 'tallymanlaw31.TapeBack': WHATEVER THE INPUT: true; the input reads as it did. -/
def tapeBackSpec : ChangeSpec := { name := "tapeBack", fn := fun _ => fun
  | [d1, d2, d3, d4] => { results := [.lit (.bool true)], args := [d1, d2, d3, d4] }
  | _ => none }
def tapeBackRow : OpenClaim := { program := "ytobannolnjmegaa", sum := "8519a166d060774504b73ebbf8729557e08911ba1eee37d9f4d68aa7e5e05823", func := "tallyman/tallymanlaw31.TapeBack", spec := "tapeBack", inPlace := ["math/bits.Sub64"], unfollowed := true, recurses := true, apart := false }
def TapeBackSaid : Prop := tapeBackRow.holds Try.pinned (OpenSpec.ofChange tapeBackSpec)

/-- ITS FALSE NEIGHBOUR: 'it returns false'. Refute it at one input. -/
def tapeBackWrong : ChangeSpec := { name := "tapeBack", fn := fun _ => fun
  | [d1, d2, d3, d4] => { results := [.lit (.bool false)], args := [d1, d2, d3, d4] }
  | _ => none }
def TapeBackWrongFalsely : Prop := tapeBackRow.holds Try.pinned (OpenSpec.ofChange tapeBackWrong)

/-- 'tallymanlaw31.TapeUnlike': WHATEVER THE INPUT: true; the input reads as it did. -/
def tapeUnlikeSpec : ChangeSpec := { name := "tapeUnlike", fn := fun _ => fun
  | [d1, d2, d3, d4, d5] => { results := [.lit (.bool true)], args := [d1, d2, d3, d4, d5] }
  | _ => none }
def tapeUnlikeRow : OpenClaim := { program := "ytobannolnjmegaa", sum := "8519a166d060774504b73ebbf8729557e08911ba1eee37d9f4d68aa7e5e05823", func := "tallyman/tallymanlaw31.TapeUnlike", spec := "tapeUnlike", inPlace := ["math/bits.Sub64"], unfollowed := true, recurses := true, apart := false }
def TapeUnlikeSaid : Prop := tapeUnlikeRow.holds Try.pinned (OpenSpec.ofChange tapeUnlikeSpec)

/-- ITS FALSE NEIGHBOUR: 'it returns false'. Refute it at one input. -/
def tapeUnlikeWrong : ChangeSpec := { name := "tapeUnlike", fn := fun _ => fun
  | [d1, d2, d3, d4, d5] => { results := [.lit (.bool false)], args := [d1, d2, d3, d4, d5] }
  | _ => none }
def TapeUnlikeWrongFalsely : Prop := tapeUnlikeRow.holds Try.pinned (OpenSpec.ofChange tapeUnlikeWrong)

/- THE SECOND FORM. 'bulk': how many values and letters a reading holds, each counted each time it is reached (what is shared counts as often as it is met; a slice's spare places count too). A statement '..UptoSaid' is the law's where the arguments, and the package variables that the reading takes, are together of bulk at most 1048576: NARROWER than '..Said'. Prove '..Said' where nothing that the law and all that it calls make is longer than what came in: it says more and counts as full. Else prove '..UptoSaid'. A law counts once. -/
mutual
def uptoBulk {H : Type} : DataW H → Nat
  | .lit (.string bytes) => bytes.length + 1
  | .lit _ => 1
  | .nil => 1
  | .ptr d => uptoBulk d + 1
  | .slice elems spare => uptoBulkAll elems + uptoBulkAll spare + 1
  | .agg parts => uptoBulkAll parts + 1
  | .iface _ d => uptoBulk d + 1
  | .map entries => uptoBulkEntries entries + 1
  | .held _ => 1
def uptoBulkAll {H : Type} : List (DataW H) → Nat
  | [] => 0
  | d :: r => uptoBulk d + uptoBulkAll r
def uptoBulkEntries {H : Type} : List (Lit × DataW H) → Nat
  | [] => 0
  | x :: r => uptoBulkEntry x + uptoBulkEntries r
def uptoBulkEntry {H : Type} : Lit × DataW H → Nat
  | (.string bytes, d) => bytes.length + uptoBulk d + 1
  | (_, d) => uptoBulk d + 1
 end
def uptoSmall : (H : Type) → List (DataW H) → Bool := fun _ ds => decide (uptoBulkAll ds ≤ 1048576)
def OpenSpec.upto (s : _root_.Go.ChangeSpec) : _root_.Go.OpenSpec := { _root_.Go.OpenSpec.ofChange s with cond := some uptoSmall }

/-- 'tallymanlaw31.TapeSplits', WHERE WHAT IT READS IS OF BULK AT MOST 1048576: true; the input reads as it did. -/
def tapeSplitsUptoRow : OpenClaim := { program := "ytobannolnjmegaa", sum := "8519a166d060774504b73ebbf8729557e08911ba1eee37d9f4d68aa7e5e05823", func := "tallyman/tallymanlaw31.TapeSplits", spec := "tapeSplits", inPlace := ["math/bits.Sub64"], unfollowed := true, recurses := true, apart := false, narrowed := true }
def TapeSplitsUptoSaid : Prop := tapeSplitsUptoRow.holds Try.pinned (OpenSpec.upto tapeSplitsSpec)

/-- 'tallymanlaw31.TapeBack', WHERE WHAT IT READS IS OF BULK AT MOST 1048576: true; the input reads as it did. -/
def tapeBackUptoRow : OpenClaim := { program := "ytobannolnjmegaa", sum := "8519a166d060774504b73ebbf8729557e08911ba1eee37d9f4d68aa7e5e05823", func := "tallyman/tallymanlaw31.TapeBack", spec := "tapeBack", inPlace := ["math/bits.Sub64"], unfollowed := true, recurses := true, apart := false, narrowed := true }
def TapeBackUptoSaid : Prop := tapeBackUptoRow.holds Try.pinned (OpenSpec.upto tapeBackSpec)

/-- 'tallymanlaw31.TapeUnlike', WHERE WHAT IT READS IS OF BULK AT MOST 1048576: true; the input reads as it did. -/
def tapeUnlikeUptoRow : OpenClaim := { program := "ytobannolnjmegaa", sum := "8519a166d060774504b73ebbf8729557e08911ba1eee37d9f4d68aa7e5e05823", func := "tallyman/tallymanlaw31.TapeUnlike", spec := "tapeUnlike", inPlace := ["math/bits.Sub64"], unfollowed := true, recurses := true, apart := false, narrowed := true }
def TapeUnlikeUptoSaid : Prop := tapeUnlikeUptoRow.holds Try.pinned (OpenSpec.upto tapeUnlikeSpec)

end Rows
end Go.Proofs.Ytobannolnjmegaa
