/-
  No cell of these rows narrows 'for every input' (looked for: loops, veiled, ifaces, maps, wideKeys, modest, calm, conditions, laid).
  DERIVED. THE GIVEN ROWS OF THIS SEAT. 5 by the template 'for every input the law returns true; each argument reads behind the call as it read before'; 0 by the template 'total and deterministic' (their statements: YtjoghehefefmdaaTotals.lean).
  GIVEN WITH THE SEED: the statements are not yours to turn. If you find one false, say at which input.
  Laid BY PROGRAM, IN A SANDBOX (cutbox-rows.mjs): the forced cells as the released guide's own fill.sh prints them over the translation 4085e732b9eb1966… (all of the seat's roots in one cut). By AI agents, Wed Nov 11 2026. No macro, syntax, notation, axiom, sorry.
-/
import Derived.Test.YtjoghehefefmdaaChecked
import GoSem.Claim
import GoSem.ClaimJoined
import GoSem.ClaimMapViews
import Derived.JoinedTies
import Derived.KernelRfl
namespace Go.Proofs.Ytjoghehefefmdaa
/- THE CELL 'sum', in the pinned program and in every row, IS THE sha256 OF THE DUMP (.gsa) THAT YtjoghehefefmdaaProg.lean LOADS. Nothing in Lean hashes anything: it is a label: what it is worth is what the hold of that sum in a sandbox is worth. -/
noncomputable def Try.pinned : Pinned := { name := "ytjoghehefefmdaa", sum := "4085e732b9eb196630329ec2704735cd61554b4a5d448dd9d845f739fce68aff", checked := Try.checked }
namespace Rows
def none {H : Type} : Left H := { results := [], args := [] }

/-- 'tallymanlaw01.GoldSums': WHATEVER THE INPUT: true; the input reads as it did. -/
def goldSumsSpec : ChangeSpec := { name := "goldSums", fn := fun _ => fun
  | [d1, d2] => { results := [.lit (.bool true)], args := [d1, d2] }
  | _ => none }
def goldSumsRow : OpenClaim := { program := "ytjoghehefefmdaa", sum := "4085e732b9eb196630329ec2704735cd61554b4a5d448dd9d845f739fce68aff", func := "tallyman/tallymanlaw01.GoldSums", spec := "goldSums", named := ["math/bits.divideError", "math/bits.overflowError"], apart := false }
def GoldSumsSaid : Prop := goldSumsRow.holds Try.pinned (OpenSpec.ofChange goldSumsSpec)

/-- ITS FALSE NEIGHBOUR: 'it returns false'. Refute it at one input. -/
def goldSumsWrong : ChangeSpec := { name := "goldSums", fn := fun _ => fun
  | [d1, d2] => { results := [.lit (.bool false)], args := [d1, d2] }
  | _ => none }
def GoldSumsWrongFalsely : Prop := goldSumsRow.holds Try.pinned (OpenSpec.ofChange goldSumsWrong)

/-- 'tallymanlaw01.GoldPowers': WHATEVER THE INPUT: true; the input reads as it did. -/
def goldPowersSpec : ChangeSpec := { name := "goldPowers", fn := fun _ => fun
  | [d1, d2] => { results := [.lit (.bool true)], args := [d1, d2] }
  | _ => none }
def goldPowersRow : OpenClaim := { program := "ytjoghehefefmdaa", sum := "4085e732b9eb196630329ec2704735cd61554b4a5d448dd9d845f739fce68aff", func := "tallyman/tallymanlaw01.GoldPowers", spec := "goldPowers", named := ["math/bits.divideError", "math/bits.overflowError"], apart := false }
def GoldPowersSaid : Prop := goldPowersRow.holds Try.pinned (OpenSpec.ofChange goldPowersSpec)

/-- ITS FALSE NEIGHBOUR: 'it returns false'. Refute it at one input. -/
def goldPowersWrong : ChangeSpec := { name := "goldPowers", fn := fun _ => fun
  | [d1, d2] => { results := [.lit (.bool false)], args := [d1, d2] }
  | _ => none }
def GoldPowersWrongFalsely : Prop := goldPowersRow.holds Try.pinned (OpenSpec.ofChange goldPowersWrong)

/-- 'tallymanlaw01.GoldRules': WHATEVER THE INPUT: true; the input reads as it did. -/
def goldRulesSpec : ChangeSpec := { name := "goldRules", fn := fun _ => fun
  | [d1, d2, d3] => { results := [.lit (.bool true)], args := [d1, d2, d3] }
  | _ => none }
def goldRulesRow : OpenClaim := { program := "ytjoghehefefmdaa", sum := "4085e732b9eb196630329ec2704735cd61554b4a5d448dd9d845f739fce68aff", func := "tallyman/tallymanlaw01.GoldRules", spec := "goldRules", named := ["math/bits.divideError", "math/bits.overflowError"], apart := false }
def GoldRulesSaid : Prop := goldRulesRow.holds Try.pinned (OpenSpec.ofChange goldRulesSpec)

/-- ITS FALSE NEIGHBOUR: 'it returns false'. Refute it at one input. -/
def goldRulesWrong : ChangeSpec := { name := "goldRules", fn := fun _ => fun
  | [d1, d2, d3] => { results := [.lit (.bool false)], args := [d1, d2, d3] }
  | _ => none }
def GoldRulesWrongFalsely : Prop := goldRulesRow.holds Try.pinned (OpenSpec.ofChange goldRulesWrong)

/-- 'tallymanlaw01.GoldRoots': WHATEVER THE INPUT: true; the input reads as it did. -/
def goldRootsSpec : ChangeSpec := { name := "goldRoots", fn := fun _ => fun
  | [d] => { results := [.lit (.bool true)], args := [d] }
  | _ => none }
def goldRootsRow : OpenClaim := { program := "ytjoghehefefmdaa", sum := "4085e732b9eb196630329ec2704735cd61554b4a5d448dd9d845f739fce68aff", func := "tallyman/tallymanlaw01.GoldRoots", spec := "goldRoots", named := ["math/bits.divideError", "math/bits.overflowError"], apart := false }
def GoldRootsSaid : Prop := goldRootsRow.holds Try.pinned (OpenSpec.ofChange goldRootsSpec)

/-- ITS FALSE NEIGHBOUR: 'it returns false'. Refute it at one input. -/
def goldRootsWrong : ChangeSpec := { name := "goldRoots", fn := fun _ => fun
  | [d] => { results := [.lit (.bool false)], args := [d] }
  | _ => none }
def GoldRootsWrongFalsely : Prop := goldRootsRow.holds Try.pinned (OpenSpec.ofChange goldRootsWrong)

/-- 'tallymanlaw01.GoldBytes': WHATEVER THE INPUT: true; the input reads as it did. -/
def goldBytesSpec : ChangeSpec := { name := "goldBytes", fn := fun _ => fun
  | [d1, d2] => { results := [.lit (.bool true)], args := [d1, d2] }
  | _ => none }
def goldBytesRow : OpenClaim := { program := "ytjoghehefefmdaa", sum := "4085e732b9eb196630329ec2704735cd61554b4a5d448dd9d845f739fce68aff", func := "tallyman/tallymanlaw01.GoldBytes", spec := "goldBytes", named := ["math/bits.divideError", "math/bits.overflowError"], apart := false }
def GoldBytesSaid : Prop := goldBytesRow.holds Try.pinned (OpenSpec.ofChange goldBytesSpec)

/-- ITS FALSE NEIGHBOUR: 'it returns false'. Refute it at one input. -/
def goldBytesWrong : ChangeSpec := { name := "goldBytes", fn := fun _ => fun
  | [d1, d2] => { results := [.lit (.bool false)], args := [d1, d2] }
  | _ => none }
def GoldBytesWrongFalsely : Prop := goldBytesRow.holds Try.pinned (OpenSpec.ofChange goldBytesWrong)

/- THE SECOND FORM. 'bulk': how many values and letters a reading holds, each counted each time it is reached (what is shared counts as often as it is met; a slice's spare places count too). A statement '..UptoSaid' is the law's where the arguments, and the package variables that the reading takes, are together of bulk at most 1048576: NARROWER than '..Said'. Prove '..Said' where nothing that the law and all that it calls make is longer than what came in: it says more and counts as full. Else prove '..UptoSaid'. A law counts once. -/
mutual
def uptoBulk {H : Type} : DataW H → Nat
  | .lit (.string bytes) => bytes.length + 1
  | .lit _ => 1
  | .nil => 1
  | .ptr d => uptoBulk d + 1
  | .slice elems spare => uptoBulkAll elems + uptoBulkAll spare + 1
  | .agg parts => uptoBulkAll parts + 1
  | .iface _ d => uptoBulk d + 1
  | .map entries => uptoBulkEntries entries + 1
  | .held _ => 1
def uptoBulkAll {H : Type} : List (DataW H) → Nat
  | [] => 0
  | d :: r => uptoBulk d + uptoBulkAll r
def uptoBulkEntries {H : Type} : List (Lit × DataW H) → Nat
  | [] => 0
  | x :: r => uptoBulkEntry x + uptoBulkEntries r
def uptoBulkEntry {H : Type} : Lit × DataW H → Nat
  | (.string bytes, d) => bytes.length + uptoBulk d + 1
  | (_, d) => uptoBulk d + 1
 end
def uptoSmall : (H : Type) → List (DataW H) → Bool := fun _ ds => decide (uptoBulkAll ds ≤ 1048576)
def OpenSpec.upto (s : _root_.Go.ChangeSpec) : _root_.Go.OpenSpec := { _root_.Go.OpenSpec.ofChange s with cond := some uptoSmall }

/-- 'tallymanlaw01.GoldSums', WHERE WHAT IT READS IS OF BULK AT MOST 1048576: true; the input reads as it did. -/
def goldSumsUptoRow : OpenClaim := { program := "ytjoghehefefmdaa", sum := "4085e732b9eb196630329ec2704735cd61554b4a5d448dd9d845f739fce68aff", func := "tallyman/tallymanlaw01.GoldSums", spec := "goldSums", named := ["math/bits.divideError", "math/bits.overflowError"], apart := false, narrowed := true }
def GoldSumsUptoSaid : Prop := goldSumsUptoRow.holds Try.pinned (OpenSpec.upto goldSumsSpec)

/-- 'tallymanlaw01.GoldPowers', WHERE WHAT IT READS IS OF BULK AT MOST 1048576: true; the input reads as it did. -/
def goldPowersUptoRow : OpenClaim := { program := "ytjoghehefefmdaa", sum := "4085e732b9eb196630329ec2704735cd61554b4a5d448dd9d845f739fce68aff", func := "tallyman/tallymanlaw01.GoldPowers", spec := "goldPowers", named := ["math/bits.divideError", "math/bits.overflowError"], apart := false, narrowed := true }
def GoldPowersUptoSaid : Prop := goldPowersUptoRow.holds Try.pinned (OpenSpec.upto goldPowersSpec)

/-- 'tallymanlaw01.GoldRules', WHERE WHAT IT READS IS OF BULK AT MOST 1048576: true; the input reads as it did. -/
def goldRulesUptoRow : OpenClaim := { program := "ytjoghehefefmdaa", sum := "4085e732b9eb196630329ec2704735cd61554b4a5d448dd9d845f739fce68aff", func := "tallyman/tallymanlaw01.GoldRules", spec := "goldRules", named := ["math/bits.divideError", "math/bits.overflowError"], apart := false, narrowed := true }
def GoldRulesUptoSaid : Prop := goldRulesUptoRow.holds Try.pinned (OpenSpec.upto goldRulesSpec)

/-- 'tallymanlaw01.GoldRoots', WHERE WHAT IT READS IS OF BULK AT MOST 1048576: true; the input reads as it did. -/
def goldRootsUptoRow : OpenClaim := { program := "ytjoghehefefmdaa", sum := "4085e732b9eb196630329ec2704735cd61554b4a5d448dd9d845f739fce68aff", func := "tallyman/tallymanlaw01.GoldRoots", spec := "goldRoots", named := ["math/bits.divideError", "math/bits.overflowError"], apart := false, narrowed := true }
def GoldRootsUptoSaid : Prop := goldRootsUptoRow.holds Try.pinned (OpenSpec.upto goldRootsSpec)

/-- 'tallymanlaw01.GoldBytes', WHERE WHAT IT READS IS OF BULK AT MOST 1048576: true; the input reads as it did. -/
def goldBytesUptoRow : OpenClaim := { program := "ytjoghehefefmdaa", sum := "4085e732b9eb196630329ec2704735cd61554b4a5d448dd9d845f739fce68aff", func := "tallyman/tallymanlaw01.GoldBytes", spec := "goldBytes", named := ["math/bits.divideError", "math/bits.overflowError"], apart := false, narrowed := true }
def GoldBytesUptoSaid : Prop := goldBytesUptoRow.holds Try.pinned (OpenSpec.upto goldBytesSpec)

end Rows
end Go.Proofs.Ytjoghehefefmdaa
