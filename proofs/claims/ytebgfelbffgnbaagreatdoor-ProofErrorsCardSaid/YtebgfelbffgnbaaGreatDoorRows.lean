/-
  NARROWER THAN 'FOR EVERY INPUT', by the rows' own cells (each row's printed sentence says how): ProofRight: laid · ProofQueries: laid · ProofShares: laid · ProofWrong: laid · ProofForged: laid · ProofJoint: laid · ProofErrors: laid.
  DERIVED. THE GIVEN ROWS OF THIS SEAT. 7 by the template 'for every input the law returns true; each argument reads behind the call as it read before'; 0 by the template 'total and deterministic' (their statements: YtebgfelbffgnbaaGreatDoorTotals.lean).
  GIVEN WITH THE SEED: the statements are not yours to turn. If you find one false, say at which input.
  Laid BY PROGRAM, IN A SANDBOX (cutbox-rows.mjs): the forced cells as the released guide's own fill.sh prints them over the translation a2f23f39768b6e6f… (all of the seat's roots in one cut). By AI agents, Wed Nov 11 2026. No macro, syntax, notation, axiom, sorry.
-/
import Derived.Test.YtebgfelbffgnbaaGreatDoorChecked
import GoSem.Claim
import GoSem.ClaimJoined
import GoSem.ClaimMapViews
import Derived.JoinedTies
import Derived.KernelRfl
namespace Go.Proofs.YtebgfelbffgnbaaGreatDoor
/- THE CELL 'sum', in the pinned program and in every row, IS THE sha256 OF THE DUMP (.gsa) THAT YtebgfelbffgnbaaGreatDoorProg.lean LOADS. Nothing in Lean hashes anything: it is a label: what it is worth is what the hold of that sum in a sandbox is worth. -/
noncomputable def Tryz.pinned : Pinned := { name := "ytebgfelbffgnbaagreatdoor", sum := "a2f23f39768b6e6f0d87fda9789027fb734dcf7bf73c0c5504aae19171a09fb9", checked := Tryz.checked }
namespace Rows
def none {H : Type} : Left H := { results := [], args := [] }

/- WHAT THE LISTED PACKAGE-LEVEL VARIABLES READ AS WHEN THE CALL BEGINS. Each datum BY PROGRAM (the guide's laid-datum.mjs) off the statement by which the dump's own 'gosem.cut.vars' lays the variable. In a bare row this is a premise. The card (YtebgfelbffgnbaaGreatDoorCards.lean) ties it to the program's text. -/
def laid_math_bits_deBruijn32tab {H : Type} : DataW H := .agg [.lit (.int .u8 0), .lit (.int .u8 1), .lit (.int .u8 28), .lit (.int .u8 2), .lit (.int .u8 29), .lit (.int .u8 14), .lit (.int .u8 24), .lit (.int .u8 3), .lit (.int .u8 30), .lit (.int .u8 22), .lit (.int .u8 20), .lit (.int .u8 15), .lit (.int .u8 25), .lit (.int .u8 17), .lit (.int .u8 4), .lit (.int .u8 8), .lit (.int .u8 31), .lit (.int .u8 27), .lit (.int .u8 13), .lit (.int .u8 23), .lit (.int .u8 21), .lit (.int .u8 19), .lit (.int .u8 16), .lit (.int .u8 7), .lit (.int .u8 26), .lit (.int .u8 12), .lit (.int .u8 18), .lit (.int .u8 6), .lit (.int .u8 11), .lit (.int .u8 5), .lit (.int .u8 10), .lit (.int .u8 9)]
def laid_math_bits_deBruijn64tab {H : Type} : DataW H := .agg [.lit (.int .u8 0), .lit (.int .u8 1), .lit (.int .u8 56), .lit (.int .u8 2), .lit (.int .u8 57), .lit (.int .u8 49), .lit (.int .u8 28), .lit (.int .u8 3), .lit (.int .u8 61), .lit (.int .u8 58), .lit (.int .u8 42), .lit (.int .u8 50), .lit (.int .u8 38), .lit (.int .u8 29), .lit (.int .u8 17), .lit (.int .u8 4), .lit (.int .u8 62), .lit (.int .u8 47), .lit (.int .u8 59), .lit (.int .u8 36), .lit (.int .u8 45), .lit (.int .u8 43), .lit (.int .u8 51), .lit (.int .u8 22), .lit (.int .u8 53), .lit (.int .u8 39), .lit (.int .u8 33), .lit (.int .u8 30), .lit (.int .u8 24), .lit (.int .u8 18), .lit (.int .u8 12), .lit (.int .u8 5), .lit (.int .u8 63), .lit (.int .u8 55), .lit (.int .u8 48), .lit (.int .u8 27), .lit (.int .u8 60), .lit (.int .u8 41), .lit (.int .u8 37), .lit (.int .u8 16), .lit (.int .u8 46), .lit (.int .u8 35), .lit (.int .u8 44), .lit (.int .u8 21), .lit (.int .u8 52), .lit (.int .u8 32), .lit (.int .u8 23), .lit (.int .u8 11), .lit (.int .u8 54), .lit (.int .u8 26), .lit (.int .u8 40), .lit (.int .u8 15), .lit (.int .u8 34), .lit (.int .u8 20), .lit (.int .u8 31), .lit (.int .u8 10), .lit (.int .u8 25), .lit (.int .u8 14), .lit (.int .u8 19), .lit (.int .u8 9), .lit (.int .u8 13), .lit (.int .u8 8), .lit (.int .u8 7), .lit (.int .u8 6)]

/-- 'tallymanlaw11.ProofRight': WHATEVER THE INPUT: true; the input reads as it did. -/
def proofRightSpec : ChangeSpec := { name := "proofRight", fn := fun _ => fun
  | [d1, d2, d3, d4, d5] => { results := [.lit (.bool true)], args := [d1, d2, d3, d4, d5] }
  | _ => none }
def proofRightRow : OpenClaim := { program := "ytebgfelbffgnbaagreatdoor", sum := "a2f23f39768b6e6f0d87fda9789027fb734dcf7bf73c0c5504aae19171a09fb9", func := "tallyman/tallymanlaw11.ProofRight", spec := "proofRight", inPlace := ["math/bits.Sub64", "math/bits.Add64"], unfollowed := true, recurses := true, named := ["math/bits.divideError", "math/bits.overflowError", "math/bits.deBruijn32tab", "math/bits.deBruijn64tab"], apart := false, laid := [("math/bits.deBruijn32tab", laid_math_bits_deBruijn32tab), ("math/bits.deBruijn64tab", laid_math_bits_deBruijn64tab)] }
def ProofRightSaid : Prop := proofRightRow.holds Tryz.pinned (OpenSpec.ofChange proofRightSpec)

/-- ITS FALSE NEIGHBOUR: 'it returns false'. Refute it at one input. -/
def proofRightWrong : ChangeSpec := { name := "proofRight", fn := fun _ => fun
  | [d1, d2, d3, d4, d5] => { results := [.lit (.bool false)], args := [d1, d2, d3, d4, d5] }
  | _ => none }
def ProofRightWrongFalsely : Prop := proofRightRow.holds Tryz.pinned (OpenSpec.ofChange proofRightWrong)

/-- 'tallymanlaw11.ProofQueries': WHATEVER THE INPUT: true; the input reads as it did. -/
def proofQueriesSpec : ChangeSpec := { name := "proofQueries", fn := fun _ => fun
  | [d1, d2, d3, d4, d5] => { results := [.lit (.bool true)], args := [d1, d2, d3, d4, d5] }
  | _ => none }
def proofQueriesRow : OpenClaim := { program := "ytebgfelbffgnbaagreatdoor", sum := "a2f23f39768b6e6f0d87fda9789027fb734dcf7bf73c0c5504aae19171a09fb9", func := "tallyman/tallymanlaw11.ProofQueries", spec := "proofQueries", inPlace := ["math/bits.Sub64", "math/bits.Add64"], unfollowed := true, recurses := true, named := ["math/bits.divideError", "math/bits.overflowError", "math/bits.deBruijn32tab", "math/bits.deBruijn64tab"], apart := false, laid := [("math/bits.deBruijn32tab", laid_math_bits_deBruijn32tab), ("math/bits.deBruijn64tab", laid_math_bits_deBruijn64tab)] }
def ProofQueriesSaid : Prop := proofQueriesRow.holds Tryz.pinned (OpenSpec.ofChange proofQueriesSpec)

/-- ITS FALSE NEIGHBOUR: 'it returns false'. Refute it at one input. -/
def proofQueriesWrong : ChangeSpec := { name := "proofQueries", fn := fun _ => fun
  | [d1, d2, d3, d4, d5] => { results := [.lit (.bool false)], args := [d1, d2, d3, d4, d5] }
  | _ => none }
def ProofQueriesWrongFalsely : Prop := proofQueriesRow.holds Tryz.pinned (OpenSpec.ofChange proofQueriesWrong)

/-- 'tallymanlaw11.ProofShares': WHATEVER THE INPUT: true; the input reads as it did. -/
def proofSharesSpec : ChangeSpec := { name := "proofShares", fn := fun _ => fun
  | [d1, d2, d3, d4, d5] => { results := [.lit (.bool true)], args := [d1, d2, d3, d4, d5] }
  | _ => none }
def proofSharesRow : OpenClaim := { program := "ytebgfelbffgnbaagreatdoor", sum := "a2f23f39768b6e6f0d87fda9789027fb734dcf7bf73c0c5504aae19171a09fb9", func := "tallyman/tallymanlaw11.ProofShares", spec := "proofShares", inPlace := ["math/bits.Sub64", "math/bits.Add64"], unfollowed := true, recurses := true, named := ["math/bits.divideError", "math/bits.overflowError", "math/bits.deBruijn32tab", "math/bits.deBruijn64tab"], apart := false, laid := [("math/bits.deBruijn32tab", laid_math_bits_deBruijn32tab), ("math/bits.deBruijn64tab", laid_math_bits_deBruijn64tab)] }
def ProofSharesSaid : Prop := proofSharesRow.holds Tryz.pinned (OpenSpec.ofChange proofSharesSpec)

/-- ITS FALSE NEIGHBOUR: 'it returns false'. Refute it at one input. -/
def proofSharesWrong : ChangeSpec := { name := "proofShares", fn := fun _ => fun
  | [d1, d2, d3, d4, d5] => { results := [.lit (.bool false)], args := [d1, d2, d3, d4, d5] }
  | _ => none }
def ProofSharesWrongFalsely : Prop := proofSharesRow.holds Tryz.pinned (OpenSpec.ofChange proofSharesWrong)

/-- 'tallymanlaw11.ProofWrong': WHATEVER THE INPUT: true; the input reads as it did. -/
def proofWrongSpec : ChangeSpec := { name := "proofWrong", fn := fun _ => fun
  | [d1, d2, d3, d4] => { results := [.lit (.bool true)], args := [d1, d2, d3, d4] }
  | _ => none }
def proofWrongRow : OpenClaim := { program := "ytebgfelbffgnbaagreatdoor", sum := "a2f23f39768b6e6f0d87fda9789027fb734dcf7bf73c0c5504aae19171a09fb9", func := "tallyman/tallymanlaw11.ProofWrong", spec := "proofWrong", inPlace := ["math/bits.Sub64", "math/bits.Add64"], unfollowed := true, recurses := true, named := ["math/bits.divideError", "math/bits.overflowError", "math/bits.deBruijn32tab", "math/bits.deBruijn64tab"], apart := false, laid := [("math/bits.deBruijn32tab", laid_math_bits_deBruijn32tab), ("math/bits.deBruijn64tab", laid_math_bits_deBruijn64tab)] }
def ProofWrongSaid : Prop := proofWrongRow.holds Tryz.pinned (OpenSpec.ofChange proofWrongSpec)

/-- ITS FALSE NEIGHBOUR: 'it returns false'. Refute it at one input. -/
def proofWrongWrong : ChangeSpec := { name := "proofWrong", fn := fun _ => fun
  | [d1, d2, d3, d4] => { results := [.lit (.bool false)], args := [d1, d2, d3, d4] }
  | _ => none }
def ProofWrongWrongFalsely : Prop := proofWrongRow.holds Tryz.pinned (OpenSpec.ofChange proofWrongWrong)

/-- 'tallymanlaw11.ProofForged': WHATEVER THE INPUT: true; the input reads as it did. -/
def proofForgedSpec : ChangeSpec := { name := "proofForged", fn := fun _ => fun
  | [d1, d2, d3, d4] => { results := [.lit (.bool true)], args := [d1, d2, d3, d4] }
  | _ => none }
def proofForgedRow : OpenClaim := { program := "ytebgfelbffgnbaagreatdoor", sum := "a2f23f39768b6e6f0d87fda9789027fb734dcf7bf73c0c5504aae19171a09fb9", func := "tallyman/tallymanlaw11.ProofForged", spec := "proofForged", inPlace := ["math/bits.Sub64", "math/bits.Add64"], unfollowed := true, recurses := true, named := ["math/bits.divideError", "math/bits.overflowError", "math/bits.deBruijn32tab", "math/bits.deBruijn64tab"], apart := false, laid := [("math/bits.deBruijn32tab", laid_math_bits_deBruijn32tab), ("math/bits.deBruijn64tab", laid_math_bits_deBruijn64tab)] }
def ProofForgedSaid : Prop := proofForgedRow.holds Tryz.pinned (OpenSpec.ofChange proofForgedSpec)

/-- ITS FALSE NEIGHBOUR: 'it returns false'. Refute it at one input. -/
def proofForgedWrong : ChangeSpec := { name := "proofForged", fn := fun _ => fun
  | [d1, d2, d3, d4] => { results := [.lit (.bool false)], args := [d1, d2, d3, d4] }
  | _ => none }
def ProofForgedWrongFalsely : Prop := proofForgedRow.holds Tryz.pinned (OpenSpec.ofChange proofForgedWrong)

/-- 'tallymanlaw11.ProofJoint': WHATEVER THE INPUT: true; the input reads as it did. -/
def proofJointSpec : ChangeSpec := { name := "proofJoint", fn := fun _ => fun
  | [d1, d2, d3] => { results := [.lit (.bool true)], args := [d1, d2, d3] }
  | _ => none }
def proofJointRow : OpenClaim := { program := "ytebgfelbffgnbaagreatdoor", sum := "a2f23f39768b6e6f0d87fda9789027fb734dcf7bf73c0c5504aae19171a09fb9", func := "tallyman/tallymanlaw11.ProofJoint", spec := "proofJoint", inPlace := ["math/bits.Sub64", "math/bits.Add64"], unfollowed := true, recurses := true, named := ["math/bits.divideError", "math/bits.overflowError", "math/bits.deBruijn32tab", "math/bits.deBruijn64tab"], apart := false, laid := [("math/bits.deBruijn32tab", laid_math_bits_deBruijn32tab), ("math/bits.deBruijn64tab", laid_math_bits_deBruijn64tab)] }
def ProofJointSaid : Prop := proofJointRow.holds Tryz.pinned (OpenSpec.ofChange proofJointSpec)

/-- ITS FALSE NEIGHBOUR: 'it returns false'. Refute it at one input. -/
def proofJointWrong : ChangeSpec := { name := "proofJoint", fn := fun _ => fun
  | [d1, d2, d3] => { results := [.lit (.bool false)], args := [d1, d2, d3] }
  | _ => none }
def ProofJointWrongFalsely : Prop := proofJointRow.holds Tryz.pinned (OpenSpec.ofChange proofJointWrong)

/-- 'tallymanlaw11.ProofErrors': WHATEVER THE INPUT: true; the input reads as it did. -/
def proofErrorsSpec : ChangeSpec := { name := "proofErrors", fn := fun _ => fun
  | [d1, d2, d3, d4] => { results := [.lit (.bool true)], args := [d1, d2, d3, d4] }
  | _ => none }
def proofErrorsRow : OpenClaim := { program := "ytebgfelbffgnbaagreatdoor", sum := "a2f23f39768b6e6f0d87fda9789027fb734dcf7bf73c0c5504aae19171a09fb9", func := "tallyman/tallymanlaw11.ProofErrors", spec := "proofErrors", inPlace := ["math/bits.Sub64", "math/bits.Add64"], unfollowed := true, recurses := true, named := ["math/bits.divideError", "math/bits.overflowError", "math/bits.deBruijn32tab", "math/bits.deBruijn64tab"], apart := false, laid := [("math/bits.deBruijn32tab", laid_math_bits_deBruijn32tab), ("math/bits.deBruijn64tab", laid_math_bits_deBruijn64tab)] }
def ProofErrorsSaid : Prop := proofErrorsRow.holds Tryz.pinned (OpenSpec.ofChange proofErrorsSpec)

/-- ITS FALSE NEIGHBOUR: 'it returns false'. Refute it at one input. -/
def proofErrorsWrong : ChangeSpec := { name := "proofErrors", fn := fun _ => fun
  | [d1, d2, d3, d4] => { results := [.lit (.bool false)], args := [d1, d2, d3, d4] }
  | _ => none }
def ProofErrorsWrongFalsely : Prop := proofErrorsRow.holds Tryz.pinned (OpenSpec.ofChange proofErrorsWrong)

/- THE SECOND FORM. 'bulk': how many values and letters a reading holds, each counted each time it is reached (what is shared counts as often as it is met; a slice's spare places count too). A statement '..UptoSaid' is the law's where the arguments, and the package variables that the reading takes, are together of bulk at most 1048576: NARROWER than '..Said'. Prove '..Said' where nothing that the law and all that it calls make is longer than what came in: it says more and counts as full. Else prove '..UptoSaid'. A law counts once. -/
mutual
def uptoBulk {H : Type} : DataW H → Nat
  | .lit (.string bytes) => bytes.length + 1
  | .lit _ => 1
  | .nil => 1
  | .ptr d => uptoBulk d + 1
  | .slice elems spare => uptoBulkAll elems + uptoBulkAll spare + 1
  | .agg parts => uptoBulkAll parts + 1
  | .iface _ d => uptoBulk d + 1
  | .map entries => uptoBulkEntries entries + 1
  | .held _ => 1
def uptoBulkAll {H : Type} : List (DataW H) → Nat
  | [] => 0
  | d :: r => uptoBulk d + uptoBulkAll r
def uptoBulkEntries {H : Type} : List (Lit × DataW H) → Nat
  | [] => 0
  | x :: r => uptoBulkEntry x + uptoBulkEntries r
def uptoBulkEntry {H : Type} : Lit × DataW H → Nat
  | (.string bytes, d) => bytes.length + uptoBulk d + 1
  | (_, d) => uptoBulk d + 1
 end
def uptoSmall : (H : Type) → List (DataW H) → Bool := fun _ ds => decide (uptoBulkAll ds ≤ 1048576)
def OpenSpec.upto (s : _root_.Go.ChangeSpec) : _root_.Go.OpenSpec := { _root_.Go.OpenSpec.ofChange s with cond := some uptoSmall }

/-- 'tallymanlaw11.ProofRight', WHERE WHAT IT READS IS OF BULK AT MOST 1048576: true; the input reads as it did. -/
def proofRightUptoRow : OpenClaim := { program := "ytebgfelbffgnbaagreatdoor", sum := "a2f23f39768b6e6f0d87fda9789027fb734dcf7bf73c0c5504aae19171a09fb9", func := "tallyman/tallymanlaw11.ProofRight", spec := "proofRight", inPlace := ["math/bits.Sub64", "math/bits.Add64"], unfollowed := true, recurses := true, named := ["math/bits.divideError", "math/bits.overflowError", "math/bits.deBruijn32tab", "math/bits.deBruijn64tab"], apart := false, laid := [("math/bits.deBruijn32tab", laid_math_bits_deBruijn32tab), ("math/bits.deBruijn64tab", laid_math_bits_deBruijn64tab)], narrowed := true }
def ProofRightUptoSaid : Prop := proofRightUptoRow.holds Tryz.pinned (OpenSpec.upto proofRightSpec)

/-- 'tallymanlaw11.ProofQueries', WHERE WHAT IT READS IS OF BULK AT MOST 1048576: true; the input reads as it did. -/
def proofQueriesUptoRow : OpenClaim := { program := "ytebgfelbffgnbaagreatdoor", sum := "a2f23f39768b6e6f0d87fda9789027fb734dcf7bf73c0c5504aae19171a09fb9", func := "tallyman/tallymanlaw11.ProofQueries", spec := "proofQueries", inPlace := ["math/bits.Sub64", "math/bits.Add64"], unfollowed := true, recurses := true, named := ["math/bits.divideError", "math/bits.overflowError", "math/bits.deBruijn32tab", "math/bits.deBruijn64tab"], apart := false, laid := [("math/bits.deBruijn32tab", laid_math_bits_deBruijn32tab), ("math/bits.deBruijn64tab", laid_math_bits_deBruijn64tab)], narrowed := true }
def ProofQueriesUptoSaid : Prop := proofQueriesUptoRow.holds Tryz.pinned (OpenSpec.upto proofQueriesSpec)

/-- 'tallymanlaw11.ProofShares', WHERE WHAT IT READS IS OF BULK AT MOST 1048576: true; the input reads as it did. -/
def proofSharesUptoRow : OpenClaim := { program := "ytebgfelbffgnbaagreatdoor", sum := "a2f23f39768b6e6f0d87fda9789027fb734dcf7bf73c0c5504aae19171a09fb9", func := "tallyman/tallymanlaw11.ProofShares", spec := "proofShares", inPlace := ["math/bits.Sub64", "math/bits.Add64"], unfollowed := true, recurses := true, named := ["math/bits.divideError", "math/bits.overflowError", "math/bits.deBruijn32tab", "math/bits.deBruijn64tab"], apart := false, laid := [("math/bits.deBruijn32tab", laid_math_bits_deBruijn32tab), ("math/bits.deBruijn64tab", laid_math_bits_deBruijn64tab)], narrowed := true }
def ProofSharesUptoSaid : Prop := proofSharesUptoRow.holds Tryz.pinned (OpenSpec.upto proofSharesSpec)

/-- 'tallymanlaw11.ProofWrong', WHERE WHAT IT READS IS OF BULK AT MOST 1048576: true; the input reads as it did. -/
def proofWrongUptoRow : OpenClaim := { program := "ytebgfelbffgnbaagreatdoor", sum := "a2f23f39768b6e6f0d87fda9789027fb734dcf7bf73c0c5504aae19171a09fb9", func := "tallyman/tallymanlaw11.ProofWrong", spec := "proofWrong", inPlace := ["math/bits.Sub64", "math/bits.Add64"], unfollowed := true, recurses := true, named := ["math/bits.divideError", "math/bits.overflowError", "math/bits.deBruijn32tab", "math/bits.deBruijn64tab"], apart := false, laid := [("math/bits.deBruijn32tab", laid_math_bits_deBruijn32tab), ("math/bits.deBruijn64tab", laid_math_bits_deBruijn64tab)], narrowed := true }
def ProofWrongUptoSaid : Prop := proofWrongUptoRow.holds Tryz.pinned (OpenSpec.upto proofWrongSpec)

/-- 'tallymanlaw11.ProofForged', WHERE WHAT IT READS IS OF BULK AT MOST 1048576: true; the input reads as it did. -/
def proofForgedUptoRow : OpenClaim := { program := "ytebgfelbffgnbaagreatdoor", sum := "a2f23f39768b6e6f0d87fda9789027fb734dcf7bf73c0c5504aae19171a09fb9", func := "tallyman/tallymanlaw11.ProofForged", spec := "proofForged", inPlace := ["math/bits.Sub64", "math/bits.Add64"], unfollowed := true, recurses := true, named := ["math/bits.divideError", "math/bits.overflowError", "math/bits.deBruijn32tab", "math/bits.deBruijn64tab"], apart := false, laid := [("math/bits.deBruijn32tab", laid_math_bits_deBruijn32tab), ("math/bits.deBruijn64tab", laid_math_bits_deBruijn64tab)], narrowed := true }
def ProofForgedUptoSaid : Prop := proofForgedUptoRow.holds Tryz.pinned (OpenSpec.upto proofForgedSpec)

/-- 'tallymanlaw11.ProofJoint', WHERE WHAT IT READS IS OF BULK AT MOST 1048576: true; the input reads as it did. -/
def proofJointUptoRow : OpenClaim := { program := "ytebgfelbffgnbaagreatdoor", sum := "a2f23f39768b6e6f0d87fda9789027fb734dcf7bf73c0c5504aae19171a09fb9", func := "tallyman/tallymanlaw11.ProofJoint", spec := "proofJoint", inPlace := ["math/bits.Sub64", "math/bits.Add64"], unfollowed := true, recurses := true, named := ["math/bits.divideError", "math/bits.overflowError", "math/bits.deBruijn32tab", "math/bits.deBruijn64tab"], apart := false, laid := [("math/bits.deBruijn32tab", laid_math_bits_deBruijn32tab), ("math/bits.deBruijn64tab", laid_math_bits_deBruijn64tab)], narrowed := true }
def ProofJointUptoSaid : Prop := proofJointUptoRow.holds Tryz.pinned (OpenSpec.upto proofJointSpec)

/-- 'tallymanlaw11.ProofErrors', WHERE WHAT IT READS IS OF BULK AT MOST 1048576: true; the input reads as it did. -/
def proofErrorsUptoRow : OpenClaim := { program := "ytebgfelbffgnbaagreatdoor", sum := "a2f23f39768b6e6f0d87fda9789027fb734dcf7bf73c0c5504aae19171a09fb9", func := "tallyman/tallymanlaw11.ProofErrors", spec := "proofErrors", inPlace := ["math/bits.Sub64", "math/bits.Add64"], unfollowed := true, recurses := true, named := ["math/bits.divideError", "math/bits.overflowError", "math/bits.deBruijn32tab", "math/bits.deBruijn64tab"], apart := false, laid := [("math/bits.deBruijn32tab", laid_math_bits_deBruijn32tab), ("math/bits.deBruijn64tab", laid_math_bits_deBruijn64tab)], narrowed := true }
def ProofErrorsUptoSaid : Prop := proofErrorsUptoRow.holds Tryz.pinned (OpenSpec.upto proofErrorsSpec)

end Rows
end Go.Proofs.YtebgfelbffgnbaaGreatDoor
