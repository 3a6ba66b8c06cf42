/-
  NARROWER THAN 'FOR EVERY INPUT', by the rows' own cells (each row's printed sentence says how): XofReal: laid · XofVecs: laid · XofStuck: laid · XofNone: laid.
  DERIVED. THE GIVEN ROWS OF THIS SEAT. 4 by the template 'for every input the law returns true; each argument reads behind the call as it read before'; 0 by the template 'total and deterministic' (their statements: YtfklkplnbmhddaaDoorTotals.lean).
  GIVEN WITH THE SEED: the statements are not yours to turn. If you find one false, say at which input.
  Laid BY PROGRAM, IN A SANDBOX (cutbox-rows.mjs): the forced cells as the released guide's own fill.sh prints them over the translation 9fd2acc3b106dc2d… (all of the seat's roots in one cut). By AI agents, Wed Nov 11 2026. No macro, syntax, notation, axiom, sorry.
-/
import Derived.Test.YtfklkplnbmhddaaDoorChecked
import GoSem.Claim
import GoSem.ClaimJoined
import GoSem.ClaimMapViews
import Derived.JoinedTies
import Derived.KernelRfl
namespace Go.Proofs.YtfklkplnbmhddaaDoor
/- THE CELL 'sum', in the pinned program and in every row, IS THE sha256 OF THE DUMP (.gsa) THAT YtfklkplnbmhddaaDoorProg.lean LOADS. Nothing in Lean hashes anything: it is a label: what it is worth is what the hold of that sum in a sandbox is worth. -/
noncomputable def Tryd.pinned : Pinned := { name := "ytfklkplnbmhddaadoor", sum := "9fd2acc3b106dc2de582c03d0f1fd32a96f45b0cd097bb2b84af6dbfcdeb16ff", checked := Tryd.checked }
namespace Rows
def none {H : Type} : Left H := { results := [], args := [] }

/- WHAT THE LISTED PACKAGE-LEVEL VARIABLES READ AS WHEN THE CALL BEGINS. Each datum BY PROGRAM (the guide's laid-datum.mjs) off the statement by which the dump's own 'gosem.cut.vars' lays the variable. In a bare row this is a premise. The card (YtfklkplnbmhddaaDoorCards.lean) ties it to the program's text. -/
def laid_tallyman_keccak_turns {H : Type} : DataW H := .agg [.lit (.int .i64 0), .lit (.int .i64 1), .lit (.int .i64 62), .lit (.int .i64 28), .lit (.int .i64 27), .lit (.int .i64 36), .lit (.int .i64 44), .lit (.int .i64 6), .lit (.int .i64 55), .lit (.int .i64 20), .lit (.int .i64 3), .lit (.int .i64 10), .lit (.int .i64 43), .lit (.int .i64 25), .lit (.int .i64 39), .lit (.int .i64 41), .lit (.int .i64 45), .lit (.int .i64 15), .lit (.int .i64 21), .lit (.int .i64 8), .lit (.int .i64 18), .lit (.int .i64 2), .lit (.int .i64 61), .lit (.int .i64 56), .lit (.int .i64 14)]
def laid_tallyman_keccak_constants {H : Type} : DataW H := .agg [.lit (.int .u64 2147516555), .lit (.int .u64 9223372036854775947), .lit (.int .u64 9223372036854808713), .lit (.int .u64 9223372036854808579), .lit (.int .u64 9223372036854808578), .lit (.int .u64 9223372036854775936), .lit (.int .u64 32778), .lit (.int .u64 9223372039002259466), .lit (.int .u64 9223372039002292353), .lit (.int .u64 9223372036854808704), .lit (.int .u64 2147483649), .lit (.int .u64 9223372039002292232)]

/-- 'tallymanlaw07.XofReal': WHATEVER THE INPUT: true; the input reads as it did. -/
def xofRealSpec : ChangeSpec := { name := "xofReal", fn := fun _ => fun
  | [d] => { results := [.lit (.bool true)], args := [d] }
  | _ => none }
def xofRealRow : OpenClaim := { program := "ytfklkplnbmhddaadoor", sum := "9fd2acc3b106dc2de582c03d0f1fd32a96f45b0cd097bb2b84af6dbfcdeb16ff", func := "tallyman/tallymanlaw07.XofReal", spec := "xofReal", named := ["tallyman/keccak.constants", "tallyman/keccak.turns"], apart := false, laid := [("tallyman/keccak.turns", laid_tallyman_keccak_turns), ("tallyman/keccak.constants", laid_tallyman_keccak_constants)] }
def XofRealSaid : Prop := xofRealRow.holds Tryd.pinned (OpenSpec.ofChange xofRealSpec)

/-- ITS FALSE NEIGHBOUR: 'it returns false'. Refute it at one input. -/
def xofRealWrong : ChangeSpec := { name := "xofReal", fn := fun _ => fun
  | [d] => { results := [.lit (.bool false)], args := [d] }
  | _ => none }
def XofRealWrongFalsely : Prop := xofRealRow.holds Tryd.pinned (OpenSpec.ofChange xofRealWrong)

/-- 'tallymanlaw07.XofVecs': WHATEVER THE INPUT: true; the input reads as it did. -/
def xofVecsSpec : ChangeSpec := { name := "xofVecs", fn := fun _ => fun
  | [d1, d2, d3] => { results := [.lit (.bool true)], args := [d1, d2, d3] }
  | _ => none }
def xofVecsRow : OpenClaim := { program := "ytfklkplnbmhddaadoor", sum := "9fd2acc3b106dc2de582c03d0f1fd32a96f45b0cd097bb2b84af6dbfcdeb16ff", func := "tallyman/tallymanlaw07.XofVecs", spec := "xofVecs", named := ["tallyman/keccak.constants", "tallyman/keccak.turns"], apart := false, laid := [("tallyman/keccak.turns", laid_tallyman_keccak_turns), ("tallyman/keccak.constants", laid_tallyman_keccak_constants)] }
def XofVecsSaid : Prop := xofVecsRow.holds Tryd.pinned (OpenSpec.ofChange xofVecsSpec)

/-- ITS FALSE NEIGHBOUR: 'it returns false'. Refute it at one input. -/
def xofVecsWrong : ChangeSpec := { name := "xofVecs", fn := fun _ => fun
  | [d1, d2, d3] => { results := [.lit (.bool false)], args := [d1, d2, d3] }
  | _ => none }
def XofVecsWrongFalsely : Prop := xofVecsRow.holds Tryd.pinned (OpenSpec.ofChange xofVecsWrong)

/-- 'tallymanlaw07.XofStuck': WHATEVER THE INPUT: true; the input reads as it did. -/
def xofStuckSpec : ChangeSpec := { name := "xofStuck", fn := fun _ => fun
  | [d1, d2, d3] => { results := [.lit (.bool true)], args := [d1, d2, d3] }
  | _ => none }
def xofStuckRow : OpenClaim := { program := "ytfklkplnbmhddaadoor", sum := "9fd2acc3b106dc2de582c03d0f1fd32a96f45b0cd097bb2b84af6dbfcdeb16ff", func := "tallyman/tallymanlaw07.XofStuck", spec := "xofStuck", named := ["tallyman/keccak.constants", "tallyman/keccak.turns"], apart := false, laid := [("tallyman/keccak.turns", laid_tallyman_keccak_turns), ("tallyman/keccak.constants", laid_tallyman_keccak_constants)] }
def XofStuckSaid : Prop := xofStuckRow.holds Tryd.pinned (OpenSpec.ofChange xofStuckSpec)

/-- ITS FALSE NEIGHBOUR: 'it returns false'. Refute it at one input. -/
def xofStuckWrong : ChangeSpec := { name := "xofStuck", fn := fun _ => fun
  | [d1, d2, d3] => { results := [.lit (.bool false)], args := [d1, d2, d3] }
  | _ => none }
def XofStuckWrongFalsely : Prop := xofStuckRow.holds Tryd.pinned (OpenSpec.ofChange xofStuckWrong)

/-- 'tallymanlaw07.XofNone': WHATEVER THE INPUT: true; the input reads as it did. -/
def xofNoneSpec : ChangeSpec := { name := "xofNone", fn := fun _ => fun
  | [d1, d2, d3] => { results := [.lit (.bool true)], args := [d1, d2, d3] }
  | _ => none }
def xofNoneRow : OpenClaim := { program := "ytfklkplnbmhddaadoor", sum := "9fd2acc3b106dc2de582c03d0f1fd32a96f45b0cd097bb2b84af6dbfcdeb16ff", func := "tallyman/tallymanlaw07.XofNone", spec := "xofNone", named := ["tallyman/keccak.constants", "tallyman/keccak.turns"], apart := false, laid := [("tallyman/keccak.turns", laid_tallyman_keccak_turns), ("tallyman/keccak.constants", laid_tallyman_keccak_constants)] }
def XofNoneSaid : Prop := xofNoneRow.holds Tryd.pinned (OpenSpec.ofChange xofNoneSpec)

/-- ITS FALSE NEIGHBOUR: 'it returns false'. Refute it at one input. -/
def xofNoneWrong : ChangeSpec := { name := "xofNone", fn := fun _ => fun
  | [d1, d2, d3] => { results := [.lit (.bool false)], args := [d1, d2, d3] }
  | _ => none }
def XofNoneWrongFalsely : Prop := xofNoneRow.holds Tryd.pinned (OpenSpec.ofChange xofNoneWrong)

/- THE SECOND FORM. 'bulk': how many values and letters a reading holds, each counted each time it is reached (what is shared counts as often as it is met; a slice's spare places count too). A statement '..UptoSaid' is the law's where the arguments, and the package variables that the reading takes, are together of bulk at most 1048576: NARROWER than '..Said'. Prove '..Said' where nothing that the law and all that it calls make is longer than what came in: it says more and counts as full. Else prove '..UptoSaid'. A law counts once. -/
mutual
def uptoBulk {H : Type} : DataW H → Nat
  | .lit (.string bytes) => bytes.length + 1
  | .lit _ => 1
  | .nil => 1
  | .ptr d => uptoBulk d + 1
  | .slice elems spare => uptoBulkAll elems + uptoBulkAll spare + 1
  | .agg parts => uptoBulkAll parts + 1
  | .iface _ d => uptoBulk d + 1
  | .map entries => uptoBulkEntries entries + 1
  | .held _ => 1
def uptoBulkAll {H : Type} : List (DataW H) → Nat
  | [] => 0
  | d :: r => uptoBulk d + uptoBulkAll r
def uptoBulkEntries {H : Type} : List (Lit × DataW H) → Nat
  | [] => 0
  | x :: r => uptoBulkEntry x + uptoBulkEntries r
def uptoBulkEntry {H : Type} : Lit × DataW H → Nat
  | (.string bytes, d) => bytes.length + uptoBulk d + 1
  | (_, d) => uptoBulk d + 1
 end
def uptoSmall : (H : Type) → List (DataW H) → Bool := fun _ ds => decide (uptoBulkAll ds ≤ 1048576)
def OpenSpec.upto (s : _root_.Go.ChangeSpec) : _root_.Go.OpenSpec := { _root_.Go.OpenSpec.ofChange s with cond := some uptoSmall }

/-- 'tallymanlaw07.XofReal', WHERE WHAT IT READS IS OF BULK AT MOST 1048576: true; the input reads as it did. -/
def xofRealUptoRow : OpenClaim := { program := "ytfklkplnbmhddaadoor", sum := "9fd2acc3b106dc2de582c03d0f1fd32a96f45b0cd097bb2b84af6dbfcdeb16ff", func := "tallyman/tallymanlaw07.XofReal", spec := "xofReal", named := ["tallyman/keccak.constants", "tallyman/keccak.turns"], apart := false, laid := [("tallyman/keccak.turns", laid_tallyman_keccak_turns), ("tallyman/keccak.constants", laid_tallyman_keccak_constants)], narrowed := true }
def XofRealUptoSaid : Prop := xofRealUptoRow.holds Tryd.pinned (OpenSpec.upto xofRealSpec)

/-- 'tallymanlaw07.XofVecs', WHERE WHAT IT READS IS OF BULK AT MOST 1048576: true; the input reads as it did. -/
def xofVecsUptoRow : OpenClaim := { program := "ytfklkplnbmhddaadoor", sum := "9fd2acc3b106dc2de582c03d0f1fd32a96f45b0cd097bb2b84af6dbfcdeb16ff", func := "tallyman/tallymanlaw07.XofVecs", spec := "xofVecs", named := ["tallyman/keccak.constants", "tallyman/keccak.turns"], apart := false, laid := [("tallyman/keccak.turns", laid_tallyman_keccak_turns), ("tallyman/keccak.constants", laid_tallyman_keccak_constants)], narrowed := true }
def XofVecsUptoSaid : Prop := xofVecsUptoRow.holds Tryd.pinned (OpenSpec.upto xofVecsSpec)

/-- 'tallymanlaw07.XofStuck', WHERE WHAT IT READS IS OF BULK AT MOST 1048576: true; the input reads as it did. -/
def xofStuckUptoRow : OpenClaim := { program := "ytfklkplnbmhddaadoor", sum := "9fd2acc3b106dc2de582c03d0f1fd32a96f45b0cd097bb2b84af6dbfcdeb16ff", func := "tallyman/tallymanlaw07.XofStuck", spec := "xofStuck", named := ["tallyman/keccak.constants", "tallyman/keccak.turns"], apart := false, laid := [("tallyman/keccak.turns", laid_tallyman_keccak_turns), ("tallyman/keccak.constants", laid_tallyman_keccak_constants)], narrowed := true }
def XofStuckUptoSaid : Prop := xofStuckUptoRow.holds Tryd.pinned (OpenSpec.upto xofStuckSpec)

/-- 'tallymanlaw07.XofNone', WHERE WHAT IT READS IS OF BULK AT MOST 1048576: true; the input reads as it did. -/
def xofNoneUptoRow : OpenClaim := { program := "ytfklkplnbmhddaadoor", sum := "9fd2acc3b106dc2de582c03d0f1fd32a96f45b0cd097bb2b84af6dbfcdeb16ff", func := "tallyman/tallymanlaw07.XofNone", spec := "xofNone", named := ["tallyman/keccak.constants", "tallyman/keccak.turns"], apart := false, laid := [("tallyman/keccak.turns", laid_tallyman_keccak_turns), ("tallyman/keccak.constants", laid_tallyman_keccak_constants)], narrowed := true }
def XofNoneUptoSaid : Prop := xofNoneUptoRow.holds Tryd.pinned (OpenSpec.upto xofNoneSpec)

end Rows
end Go.Proofs.YtfklkplnbmhddaaDoor
