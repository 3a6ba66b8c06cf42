/-
  NARROWER THAN 'FOR EVERY INPUT', by the rows' own cells (each row's printed sentence says how): TotalAdds: laid · TotalUnshards: laid · TotalBytes: laid · TotalErrors: laid · BucketStarts: laid · BucketChecks: laid · BucketNone: laid · BucketPlays: laid.
  DERIVED. THE GIVEN ROWS OF THIS SEAT. 8 by the template 'for every input the law returns true; each argument reads behind the call as it read before'; 0 by the template 'total and deterministic' (their statements: YtpojhomccmfffaaDoorTotals.lean).
  GIVEN WITH THE SEED: the statements are not yours to turn. If you find one false, say at which input.
  Laid BY PROGRAM, IN A SANDBOX (cutbox-rows.mjs): the forced cells as the released guide's own fill.sh prints them over the translation 99d408d45487be5a… (all of the seat's roots in one cut). By AI agents, Wed Nov 11 2026. No macro, syntax, notation, axiom, sorry.
-/
import Derived.Test.YtpojhomccmfffaaDoorChecked
import GoSem.Claim
import GoSem.ClaimJoined
import GoSem.ClaimMapViews
import Derived.JoinedTies
import Derived.KernelRfl
namespace Go.Proofs.YtpojhomccmfffaaDoor
/- THE CELL 'sum', in the pinned program and in every row, IS THE sha256 OF THE DUMP (.gsa) THAT YtpojhomccmfffaaDoorProg.lean LOADS. Nothing in Lean hashes anything: it is a label: what it is worth is what the hold of that sum in a sandbox is worth. -/
noncomputable def Tryd.pinned : Pinned := { name := "ytpojhomccmfffaadoor", sum := "99d408d45487be5a9caf094ef4ea03f7a01a1b23d5b3f88bc60185a7ad3ffcb4", checked := Tryd.checked }
namespace Rows
def none {H : Type} : Left H := { results := [], args := [] }

/- WHAT THE LISTED PACKAGE-LEVEL VARIABLES READ AS WHEN THE CALL BEGINS. Each datum BY PROGRAM (the guide's laid-datum.mjs) off the statement by which the dump's own 'gosem.cut.vars' lays the variable. In a bare row this is a premise. The card (YtpojhomccmfffaaDoorCards.lean) ties it to the program's text. -/
def laid_tallyman_keccak_turns {H : Type} : DataW H := .agg [.lit (.int .i64 0), .lit (.int .i64 1), .lit (.int .i64 62), .lit (.int .i64 28), .lit (.int .i64 27), .lit (.int .i64 36), .lit (.int .i64 44), .lit (.int .i64 6), .lit (.int .i64 55), .lit (.int .i64 20), .lit (.int .i64 3), .lit (.int .i64 10), .lit (.int .i64 43), .lit (.int .i64 25), .lit (.int .i64 39), .lit (.int .i64 41), .lit (.int .i64 45), .lit (.int .i64 15), .lit (.int .i64 21), .lit (.int .i64 8), .lit (.int .i64 18), .lit (.int .i64 2), .lit (.int .i64 61), .lit (.int .i64 56), .lit (.int .i64 14)]
def laid_tallyman_keccak_constants {H : Type} : DataW H := .agg [.lit (.int .u64 2147516555), .lit (.int .u64 9223372036854775947), .lit (.int .u64 9223372036854808713), .lit (.int .u64 9223372036854808579), .lit (.int .u64 9223372036854808578), .lit (.int .u64 9223372036854775936), .lit (.int .u64 32778), .lit (.int .u64 9223372039002259466), .lit (.int .u64 9223372039002292353), .lit (.int .u64 9223372036854808704), .lit (.int .u64 2147483649), .lit (.int .u64 9223372039002292232)]

/-- 'tallymanlaw15.TotalAdds': WHATEVER THE INPUT: true; the input reads as it did. -/
def totalAddsSpec : ChangeSpec := { name := "totalAdds", fn := fun _ => fun
  | [d1, d2, d3] => { results := [.lit (.bool true)], args := [d1, d2, d3] }
  | _ => none }
def totalAddsRow : OpenClaim := { program := "ytpojhomccmfffaadoor", sum := "99d408d45487be5a9caf094ef4ea03f7a01a1b23d5b3f88bc60185a7ad3ffcb4", func := "tallyman/tallymanlaw15.TotalAdds", spec := "totalAdds", inPlace := ["math/bits.Sub64"], unfollowed := true, recurses := true, named := ["tallyman/keccak.constants", "tallyman/keccak.turns"], apart := false, laid := [("tallyman/keccak.turns", laid_tallyman_keccak_turns), ("tallyman/keccak.constants", laid_tallyman_keccak_constants)] }
def TotalAddsSaid : Prop := totalAddsRow.holds Tryd.pinned (OpenSpec.ofChange totalAddsSpec)

/-- ITS FALSE NEIGHBOUR: 'it returns false'. Refute it at one input. -/
def totalAddsWrong : ChangeSpec := { name := "totalAdds", fn := fun _ => fun
  | [d1, d2, d3] => { results := [.lit (.bool false)], args := [d1, d2, d3] }
  | _ => none }
def TotalAddsWrongFalsely : Prop := totalAddsRow.holds Tryd.pinned (OpenSpec.ofChange totalAddsWrong)

/-- 'tallymanlaw15.TotalUnshards': WHATEVER THE INPUT: true; the input reads as it did. -/
def totalUnshardsSpec : ChangeSpec := { name := "totalUnshards", fn := fun _ => fun
  | [d1, d2, d3, d4] => { results := [.lit (.bool true)], args := [d1, d2, d3, d4] }
  | _ => none }
def totalUnshardsRow : OpenClaim := { program := "ytpojhomccmfffaadoor", sum := "99d408d45487be5a9caf094ef4ea03f7a01a1b23d5b3f88bc60185a7ad3ffcb4", func := "tallyman/tallymanlaw15.TotalUnshards", spec := "totalUnshards", inPlace := ["math/bits.Sub64", "math/bits.Add64"], unfollowed := true, recurses := true, named := ["tallyman/keccak.constants", "tallyman/keccak.turns", "math/bits.divideError", "math/bits.overflowError"], apart := false, laid := [("tallyman/keccak.turns", laid_tallyman_keccak_turns), ("tallyman/keccak.constants", laid_tallyman_keccak_constants)] }
def TotalUnshardsSaid : Prop := totalUnshardsRow.holds Tryd.pinned (OpenSpec.ofChange totalUnshardsSpec)

/-- ITS FALSE NEIGHBOUR: 'it returns false'. Refute it at one input. -/
def totalUnshardsWrong : ChangeSpec := { name := "totalUnshards", fn := fun _ => fun
  | [d1, d2, d3, d4] => { results := [.lit (.bool false)], args := [d1, d2, d3, d4] }
  | _ => none }
def TotalUnshardsWrongFalsely : Prop := totalUnshardsRow.holds Tryd.pinned (OpenSpec.ofChange totalUnshardsWrong)

/-- 'tallymanlaw15.TotalBytes': WHATEVER THE INPUT: true; the input reads as it did. -/
def totalBytesSpec : ChangeSpec := { name := "totalBytes", fn := fun _ => fun
  | [d1, d2, d3, d4] => { results := [.lit (.bool true)], args := [d1, d2, d3, d4] }
  | _ => none }
def totalBytesRow : OpenClaim := { program := "ytpojhomccmfffaadoor", sum := "99d408d45487be5a9caf094ef4ea03f7a01a1b23d5b3f88bc60185a7ad3ffcb4", func := "tallyman/tallymanlaw15.TotalBytes", spec := "totalBytes", inPlace := ["math/bits.Sub64"], unfollowed := true, recurses := true, named := ["tallyman/keccak.constants", "tallyman/keccak.turns"], apart := false, laid := [("tallyman/keccak.turns", laid_tallyman_keccak_turns), ("tallyman/keccak.constants", laid_tallyman_keccak_constants)] }
def TotalBytesSaid : Prop := totalBytesRow.holds Tryd.pinned (OpenSpec.ofChange totalBytesSpec)

/-- ITS FALSE NEIGHBOUR: 'it returns false'. Refute it at one input. -/
def totalBytesWrong : ChangeSpec := { name := "totalBytes", fn := fun _ => fun
  | [d1, d2, d3, d4] => { results := [.lit (.bool false)], args := [d1, d2, d3, d4] }
  | _ => none }
def TotalBytesWrongFalsely : Prop := totalBytesRow.holds Tryd.pinned (OpenSpec.ofChange totalBytesWrong)

/-- 'tallymanlaw15.TotalErrors': WHATEVER THE INPUT: true; the input reads as it did. -/
def totalErrorsSpec : ChangeSpec := { name := "totalErrors", fn := fun _ => fun
  | [d1, d2, d3, d4, d5] => { results := [.lit (.bool true)], args := [d1, d2, d3, d4, d5] }
  | _ => none }
def totalErrorsRow : OpenClaim := { program := "ytpojhomccmfffaadoor", sum := "99d408d45487be5a9caf094ef4ea03f7a01a1b23d5b3f88bc60185a7ad3ffcb4", func := "tallyman/tallymanlaw15.TotalErrors", spec := "totalErrors", inPlace := ["math/bits.Sub64"], unfollowed := true, recurses := true, named := ["tallyman/keccak.constants", "tallyman/keccak.turns"], apart := false, laid := [("tallyman/keccak.turns", laid_tallyman_keccak_turns), ("tallyman/keccak.constants", laid_tallyman_keccak_constants)] }
def TotalErrorsSaid : Prop := totalErrorsRow.holds Tryd.pinned (OpenSpec.ofChange totalErrorsSpec)

/-- ITS FALSE NEIGHBOUR: 'it returns false'. Refute it at one input. -/
def totalErrorsWrong : ChangeSpec := { name := "totalErrors", fn := fun _ => fun
  | [d1, d2, d3, d4, d5] => { results := [.lit (.bool false)], args := [d1, d2, d3, d4, d5] }
  | _ => none }
def TotalErrorsWrongFalsely : Prop := totalErrorsRow.holds Tryd.pinned (OpenSpec.ofChange totalErrorsWrong)

/-- 'tallymanlaw19.BucketStarts': WHATEVER THE INPUT: true; the input reads as it did. -/
def bucketStartsSpec : ChangeSpec := { name := "bucketStarts", fn := fun _ => fun
  | [d1, d2, d3] => { results := [.lit (.bool true)], args := [d1, d2, d3] }
  | _ => none }
def bucketStartsRow : OpenClaim := { program := "ytpojhomccmfffaadoor", sum := "99d408d45487be5a9caf094ef4ea03f7a01a1b23d5b3f88bc60185a7ad3ffcb4", func := "tallyman/tallymanlaw19.BucketStarts", spec := "bucketStarts", inPlace := ["math/bits.Sub64", "slices.overlaps[tallyman/bucket.Bucket]"], unfollowed := true, recurses := true, named := ["tallyman/keccak.constants", "tallyman/keccak.turns"], apart := false, laid := [("tallyman/keccak.turns", laid_tallyman_keccak_turns), ("tallyman/keccak.constants", laid_tallyman_keccak_constants)] }
def BucketStartsSaid : Prop := bucketStartsRow.holds Tryd.pinned (OpenSpec.ofChange bucketStartsSpec)

/-- ITS FALSE NEIGHBOUR: 'it returns false'. Refute it at one input. -/
def bucketStartsWrong : ChangeSpec := { name := "bucketStarts", fn := fun _ => fun
  | [d1, d2, d3] => { results := [.lit (.bool false)], args := [d1, d2, d3] }
  | _ => none }
def BucketStartsWrongFalsely : Prop := bucketStartsRow.holds Tryd.pinned (OpenSpec.ofChange bucketStartsWrong)

/-- 'tallymanlaw19.BucketChecks': WHATEVER THE INPUT: true; the input reads as it did. -/
def bucketChecksSpec : ChangeSpec := { name := "bucketChecks", fn := fun _ => fun
  | [d1, d2, d3] => { results := [.lit (.bool true)], args := [d1, d2, d3] }
  | _ => none }
def bucketChecksRow : OpenClaim := { program := "ytpojhomccmfffaadoor", sum := "99d408d45487be5a9caf094ef4ea03f7a01a1b23d5b3f88bc60185a7ad3ffcb4", func := "tallyman/tallymanlaw19.BucketChecks", spec := "bucketChecks", inPlace := ["math/bits.Sub64", "slices.overlaps[tallyman/bucket.Bucket]"], unfollowed := true, recurses := true, named := ["tallyman/keccak.constants", "tallyman/keccak.turns"], apart := false, laid := [("tallyman/keccak.turns", laid_tallyman_keccak_turns), ("tallyman/keccak.constants", laid_tallyman_keccak_constants)] }
def BucketChecksSaid : Prop := bucketChecksRow.holds Tryd.pinned (OpenSpec.ofChange bucketChecksSpec)

/-- ITS FALSE NEIGHBOUR: 'it returns false'. Refute it at one input. -/
def bucketChecksWrong : ChangeSpec := { name := "bucketChecks", fn := fun _ => fun
  | [d1, d2, d3] => { results := [.lit (.bool false)], args := [d1, d2, d3] }
  | _ => none }
def BucketChecksWrongFalsely : Prop := bucketChecksRow.holds Tryd.pinned (OpenSpec.ofChange bucketChecksWrong)

/-- 'tallymanlaw19.BucketNone': WHATEVER THE INPUT: true; the input reads as it did. -/
def bucketNoneSpec : ChangeSpec := { name := "bucketNone", fn := fun _ => fun
  | [d1, d2, d3] => { results := [.lit (.bool true)], args := [d1, d2, d3] }
  | _ => none }
def bucketNoneRow : OpenClaim := { program := "ytpojhomccmfffaadoor", sum := "99d408d45487be5a9caf094ef4ea03f7a01a1b23d5b3f88bc60185a7ad3ffcb4", func := "tallyman/tallymanlaw19.BucketNone", spec := "bucketNone", inPlace := ["math/bits.Sub64", "slices.overlaps[tallyman/bucket.Bucket]"], unfollowed := true, recurses := true, named := ["tallyman/keccak.constants", "tallyman/keccak.turns"], apart := false, laid := [("tallyman/keccak.turns", laid_tallyman_keccak_turns), ("tallyman/keccak.constants", laid_tallyman_keccak_constants)] }
def BucketNoneSaid : Prop := bucketNoneRow.holds Tryd.pinned (OpenSpec.ofChange bucketNoneSpec)

/-- ITS FALSE NEIGHBOUR: 'it returns false'. Refute it at one input. -/
def bucketNoneWrong : ChangeSpec := { name := "bucketNone", fn := fun _ => fun
  | [d1, d2, d3] => { results := [.lit (.bool false)], args := [d1, d2, d3] }
  | _ => none }
def BucketNoneWrongFalsely : Prop := bucketNoneRow.holds Tryd.pinned (OpenSpec.ofChange bucketNoneWrong)

/-- 'tallymanlaw19.BucketPlays': WHATEVER THE INPUT: true; the input reads as it did. -/
def bucketPlaysSpec : ChangeSpec := { name := "bucketPlays", fn := fun _ => fun
  | [d1, d2, d3] => { results := [.lit (.bool true)], args := [d1, d2, d3] }
  | _ => none }
def bucketPlaysRow : OpenClaim := { program := "ytpojhomccmfffaadoor", sum := "99d408d45487be5a9caf094ef4ea03f7a01a1b23d5b3f88bc60185a7ad3ffcb4", func := "tallyman/tallymanlaw19.BucketPlays", spec := "bucketPlays", inPlace := ["math/bits.Sub64", "slices.overlaps[tallyman/bucket.Bucket]"], unfollowed := true, recurses := true, named := ["tallyman/keccak.constants", "tallyman/keccak.turns"], apart := false, laid := [("tallyman/keccak.turns", laid_tallyman_keccak_turns), ("tallyman/keccak.constants", laid_tallyman_keccak_constants)] }
def BucketPlaysSaid : Prop := bucketPlaysRow.holds Tryd.pinned (OpenSpec.ofChange bucketPlaysSpec)

/-- ITS FALSE NEIGHBOUR: 'it returns false'. Refute it at one input. -/
def bucketPlaysWrong : ChangeSpec := { name := "bucketPlays", fn := fun _ => fun
  | [d1, d2, d3] => { results := [.lit (.bool false)], args := [d1, d2, d3] }
  | _ => none }
def BucketPlaysWrongFalsely : Prop := bucketPlaysRow.holds Tryd.pinned (OpenSpec.ofChange bucketPlaysWrong)

/- THE SECOND FORM. 'bulk': how many values and letters a reading holds, each counted each time it is reached (what is shared counts as often as it is met; a slice's spare places count too). A statement '..UptoSaid' is the law's where the arguments, and the package variables that the reading takes, are together of bulk at most 1048576: NARROWER than '..Said'. Prove '..Said' where nothing that the law and all that it calls make is longer than what came in: it says more and counts as full. Else prove '..UptoSaid'. A law counts once. -/
mutual
def uptoBulk {H : Type} : DataW H → Nat
  | .lit (.string bytes) => bytes.length + 1
  | .lit _ => 1
  | .nil => 1
  | .ptr d => uptoBulk d + 1
  | .slice elems spare => uptoBulkAll elems + uptoBulkAll spare + 1
  | .agg parts => uptoBulkAll parts + 1
  | .iface _ d => uptoBulk d + 1
  | .map entries => uptoBulkEntries entries + 1
  | .held _ => 1
def uptoBulkAll {H : Type} : List (DataW H) → Nat
  | [] => 0
  | d :: r => uptoBulk d + uptoBulkAll r
def uptoBulkEntries {H : Type} : List (Lit × DataW H) → Nat
  | [] => 0
  | x :: r => uptoBulkEntry x + uptoBulkEntries r
def uptoBulkEntry {H : Type} : Lit × DataW H → Nat
  | (.string bytes, d) => bytes.length + uptoBulk d + 1
  | (_, d) => uptoBulk d + 1
 end
def uptoSmall : (H : Type) → List (DataW H) → Bool := fun _ ds => decide (uptoBulkAll ds ≤ 1048576)
def OpenSpec.upto (s : _root_.Go.ChangeSpec) : _root_.Go.OpenSpec := { _root_.Go.OpenSpec.ofChange s with cond := some uptoSmall }

/-- 'tallymanlaw15.TotalAdds', WHERE WHAT IT READS IS OF BULK AT MOST 1048576: true; the input reads as it did. -/
def totalAddsUptoRow : OpenClaim := { program := "ytpojhomccmfffaadoor", sum := "99d408d45487be5a9caf094ef4ea03f7a01a1b23d5b3f88bc60185a7ad3ffcb4", func := "tallyman/tallymanlaw15.TotalAdds", spec := "totalAdds", inPlace := ["math/bits.Sub64"], unfollowed := true, recurses := true, named := ["tallyman/keccak.constants", "tallyman/keccak.turns"], apart := false, laid := [("tallyman/keccak.turns", laid_tallyman_keccak_turns), ("tallyman/keccak.constants", laid_tallyman_keccak_constants)], narrowed := true }
def TotalAddsUptoSaid : Prop := totalAddsUptoRow.holds Tryd.pinned (OpenSpec.upto totalAddsSpec)

/-- 'tallymanlaw15.TotalUnshards', WHERE WHAT IT READS IS OF BULK AT MOST 1048576: true; the input reads as it did. -/
def totalUnshardsUptoRow : OpenClaim := { program := "ytpojhomccmfffaadoor", sum := "99d408d45487be5a9caf094ef4ea03f7a01a1b23d5b3f88bc60185a7ad3ffcb4", func := "tallyman/tallymanlaw15.TotalUnshards", spec := "totalUnshards", inPlace := ["math/bits.Sub64", "math/bits.Add64"], unfollowed := true, recurses := true, named := ["tallyman/keccak.constants", "tallyman/keccak.turns", "math/bits.divideError", "math/bits.overflowError"], apart := false, laid := [("tallyman/keccak.turns", laid_tallyman_keccak_turns), ("tallyman/keccak.constants", laid_tallyman_keccak_constants)], narrowed := true }
def TotalUnshardsUptoSaid : Prop := totalUnshardsUptoRow.holds Tryd.pinned (OpenSpec.upto totalUnshardsSpec)

/-- 'tallymanlaw15.TotalBytes', WHERE WHAT IT READS IS OF BULK AT MOST 1048576: true; the input reads as it did. -/
def totalBytesUptoRow : OpenClaim := { program := "ytpojhomccmfffaadoor", sum := "99d408d45487be5a9caf094ef4ea03f7a01a1b23d5b3f88bc60185a7ad3ffcb4", func := "tallyman/tallymanlaw15.TotalBytes", spec := "totalBytes", inPlace := ["math/bits.Sub64"], unfollowed := true, recurses := true, named := ["tallyman/keccak.constants", "tallyman/keccak.turns"], apart := false, laid := [("tallyman/keccak.turns", laid_tallyman_keccak_turns), ("tallyman/keccak.constants", laid_tallyman_keccak_constants)], narrowed := true }
def TotalBytesUptoSaid : Prop := totalBytesUptoRow.holds Tryd.pinned (OpenSpec.upto totalBytesSpec)

/-- 'tallymanlaw15.TotalErrors', WHERE WHAT IT READS IS OF BULK AT MOST 1048576: true; the input reads as it did. -/
def totalErrorsUptoRow : OpenClaim := { program := "ytpojhomccmfffaadoor", sum := "99d408d45487be5a9caf094ef4ea03f7a01a1b23d5b3f88bc60185a7ad3ffcb4", func := "tallyman/tallymanlaw15.TotalErrors", spec := "totalErrors", inPlace := ["math/bits.Sub64"], unfollowed := true, recurses := true, named := ["tallyman/keccak.constants", "tallyman/keccak.turns"], apart := false, laid := [("tallyman/keccak.turns", laid_tallyman_keccak_turns), ("tallyman/keccak.constants", laid_tallyman_keccak_constants)], narrowed := true }
def TotalErrorsUptoSaid : Prop := totalErrorsUptoRow.holds Tryd.pinned (OpenSpec.upto totalErrorsSpec)

/-- 'tallymanlaw19.BucketStarts', WHERE WHAT IT READS IS OF BULK AT MOST 1048576: true; the input reads as it did. -/
def bucketStartsUptoRow : OpenClaim := { program := "ytpojhomccmfffaadoor", sum := "99d408d45487be5a9caf094ef4ea03f7a01a1b23d5b3f88bc60185a7ad3ffcb4", func := "tallyman/tallymanlaw19.BucketStarts", spec := "bucketStarts", inPlace := ["math/bits.Sub64", "slices.overlaps[tallyman/bucket.Bucket]"], unfollowed := true, recurses := true, named := ["tallyman/keccak.constants", "tallyman/keccak.turns"], apart := false, laid := [("tallyman/keccak.turns", laid_tallyman_keccak_turns), ("tallyman/keccak.constants", laid_tallyman_keccak_constants)], narrowed := true }
def BucketStartsUptoSaid : Prop := bucketStartsUptoRow.holds Tryd.pinned (OpenSpec.upto bucketStartsSpec)

/-- 'tallymanlaw19.BucketChecks', WHERE WHAT IT READS IS OF BULK AT MOST 1048576: true; the input reads as it did. -/
def bucketChecksUptoRow : OpenClaim := { program := "ytpojhomccmfffaadoor", sum := "99d408d45487be5a9caf094ef4ea03f7a01a1b23d5b3f88bc60185a7ad3ffcb4", func := "tallyman/tallymanlaw19.BucketChecks", spec := "bucketChecks", inPlace := ["math/bits.Sub64", "slices.overlaps[tallyman/bucket.Bucket]"], unfollowed := true, recurses := true, named := ["tallyman/keccak.constants", "tallyman/keccak.turns"], apart := false, laid := [("tallyman/keccak.turns", laid_tallyman_keccak_turns), ("tallyman/keccak.constants", laid_tallyman_keccak_constants)], narrowed := true }
def BucketChecksUptoSaid : Prop := bucketChecksUptoRow.holds Tryd.pinned (OpenSpec.upto bucketChecksSpec)

/-- 'tallymanlaw19.BucketNone', WHERE WHAT IT READS IS OF BULK AT MOST 1048576: true; the input reads as it did. -/
def bucketNoneUptoRow : OpenClaim := { program := "ytpojhomccmfffaadoor", sum := "99d408d45487be5a9caf094ef4ea03f7a01a1b23d5b3f88bc60185a7ad3ffcb4", func := "tallyman/tallymanlaw19.BucketNone", spec := "bucketNone", inPlace := ["math/bits.Sub64", "slices.overlaps[tallyman/bucket.Bucket]"], unfollowed := true, recurses := true, named := ["tallyman/keccak.constants", "tallyman/keccak.turns"], apart := false, laid := [("tallyman/keccak.turns", laid_tallyman_keccak_turns), ("tallyman/keccak.constants", laid_tallyman_keccak_constants)], narrowed := true }
def BucketNoneUptoSaid : Prop := bucketNoneUptoRow.holds Tryd.pinned (OpenSpec.upto bucketNoneSpec)

/-- 'tallymanlaw19.BucketPlays', WHERE WHAT IT READS IS OF BULK AT MOST 1048576: true; the input reads as it did. -/
def bucketPlaysUptoRow : OpenClaim := { program := "ytpojhomccmfffaadoor", sum := "99d408d45487be5a9caf094ef4ea03f7a01a1b23d5b3f88bc60185a7ad3ffcb4", func := "tallyman/tallymanlaw19.BucketPlays", spec := "bucketPlays", inPlace := ["math/bits.Sub64", "slices.overlaps[tallyman/bucket.Bucket]"], unfollowed := true, recurses := true, named := ["tallyman/keccak.constants", "tallyman/keccak.turns"], apart := false, laid := [("tallyman/keccak.turns", laid_tallyman_keccak_turns), ("tallyman/keccak.constants", laid_tallyman_keccak_constants)], narrowed := true }
def BucketPlaysUptoSaid : Prop := bucketPlaysUptoRow.holds Tryd.pinned (OpenSpec.upto bucketPlaysSpec)

end Rows
end Go.Proofs.YtpojhomccmfffaaDoor
