/-
  No cell of these rows narrows 'for every input' (looked for: loops, veiled, ifaces, maps, wideKeys, modest, calm, conditions, laid).
  DERIVED. THE GIVEN ROWS OF THIS SEAT. 4 by the template 'for every input the law returns true; each argument reads behind the call as it read before'; 0 by the template 'total and deterministic' (their statements: YtgmmdhefcijgeaaTotals.lean).
  GIVEN WITH THE SEED: the statements are not yours to turn. If you find one false, say at which input.
  Laid BY PROGRAM, IN A SANDBOX (cutbox-rows.mjs): the forced cells as the released guide's own fill.sh prints them over the translation 51ac8e14a0c0fd64… (all of the seat's roots in one cut). By AI agents, Wed Nov 11 2026. No macro, syntax, notation, axiom, sorry.
-/
import Derived.Test.YtgmmdhefcijgeaaChecked
import GoSem.Claim
import GoSem.ClaimJoined
import GoSem.ClaimMapViews
import Derived.JoinedTies
import Derived.KernelRfl
namespace Go.Proofs.Ytgmmdhefcijgeaa
/- THE CELL 'sum', in the pinned program and in every row, IS THE sha256 OF THE DUMP (.gsa) THAT YtgmmdhefcijgeaaProg.lean LOADS. Nothing in Lean hashes anything: it is a label: what it is worth is what the hold of that sum in a sandbox is worth. -/
noncomputable def Try.pinned : Pinned := { name := "ytgmmdhefcijgeaa", sum := "51ac8e14a0c0fd64cdf001a199f5d26b9f3d9dc4a0bf75c9ac53233a4ecc0ac1", checked := Try.checked }
namespace Rows
def none {H : Type} : Left H := { results := [], args := [] }

/-- 'tallymanlaw08.QuantBack': WHATEVER THE INPUT: true; the input reads as it did. -/
def quantBackSpec : ChangeSpec := { name := "quantBack", fn := fun _ => fun
  | [d1, d2] => { results := [.lit (.bool true)], args := [d1, d2] }
  | _ => none }
def quantBackRow : OpenClaim := { program := "ytgmmdhefcijgeaa", sum := "51ac8e14a0c0fd64cdf001a199f5d26b9f3d9dc4a0bf75c9ac53233a4ecc0ac1", func := "tallyman/tallymanlaw08.QuantBack", spec := "quantBack", inPlace := ["math.Float64bits", "math.Float64frombits", "math.RoundToEven"], apart := false }
def QuantBackSaid : Prop := quantBackRow.holds Try.pinned (OpenSpec.ofChange quantBackSpec)

/-- ITS FALSE NEIGHBOUR: 'it returns false'. Refute it at one input. -/
def quantBackWrong : ChangeSpec := { name := "quantBack", fn := fun _ => fun
  | [d1, d2] => { results := [.lit (.bool false)], args := [d1, d2] }
  | _ => none }
def QuantBackWrongFalsely : Prop := quantBackRow.holds Try.pinned (OpenSpec.ofChange quantBackWrong)

/-- 'tallymanlaw08.QuantNear': WHATEVER THE INPUT: true; the input reads as it did. -/
def quantNearSpec : ChangeSpec := { name := "quantNear", fn := fun _ => fun
  | [d1, d2] => { results := [.lit (.bool true)], args := [d1, d2] }
  | _ => none }
def quantNearRow : OpenClaim := { program := "ytgmmdhefcijgeaa", sum := "51ac8e14a0c0fd64cdf001a199f5d26b9f3d9dc4a0bf75c9ac53233a4ecc0ac1", func := "tallyman/tallymanlaw08.QuantNear", spec := "quantNear", inPlace := ["math.Float64bits", "math.Float64frombits", "math.RoundToEven"], apart := false }
def QuantNearSaid : Prop := quantNearRow.holds Try.pinned (OpenSpec.ofChange quantNearSpec)

/-- ITS FALSE NEIGHBOUR: 'it returns false'. Refute it at one input. -/
def quantNearWrong : ChangeSpec := { name := "quantNear", fn := fun _ => fun
  | [d1, d2] => { results := [.lit (.bool false)], args := [d1, d2] }
  | _ => none }
def QuantNearWrongFalsely : Prop := quantNearRow.holds Try.pinned (OpenSpec.ofChange quantNearWrong)

/-- 'tallymanlaw08.QuantVecs': WHATEVER THE INPUT: true; the input reads as it did. -/
def quantVecsSpec : ChangeSpec := { name := "quantVecs", fn := fun _ => fun
  | [d1, d2, d3] => { results := [.lit (.bool true)], args := [d1, d2, d3] }
  | _ => none }
def quantVecsRow : OpenClaim := { program := "ytgmmdhefcijgeaa", sum := "51ac8e14a0c0fd64cdf001a199f5d26b9f3d9dc4a0bf75c9ac53233a4ecc0ac1", func := "tallyman/tallymanlaw08.QuantVecs", spec := "quantVecs", inPlace := ["math.Float64bits", "math.Float64frombits", "math.RoundToEven"], apart := false }
def QuantVecsSaid : Prop := quantVecsRow.holds Try.pinned (OpenSpec.ofChange quantVecsSpec)

/-- ITS FALSE NEIGHBOUR: 'it returns false'. Refute it at one input. -/
def quantVecsWrong : ChangeSpec := { name := "quantVecs", fn := fun _ => fun
  | [d1, d2, d3] => { results := [.lit (.bool false)], args := [d1, d2, d3] }
  | _ => none }
def QuantVecsWrongFalsely : Prop := quantVecsRow.holds Try.pinned (OpenSpec.ofChange quantVecsWrong)

/-- 'tallymanlaw08.QuantOrder': WHATEVER THE INPUT: true; the input reads as it did. -/
def quantOrderSpec : ChangeSpec := { name := "quantOrder", fn := fun _ => fun
  | [d1, d2, d3] => { results := [.lit (.bool true)], args := [d1, d2, d3] }
  | _ => none }
def quantOrderRow : OpenClaim := { program := "ytgmmdhefcijgeaa", sum := "51ac8e14a0c0fd64cdf001a199f5d26b9f3d9dc4a0bf75c9ac53233a4ecc0ac1", func := "tallyman/tallymanlaw08.QuantOrder", spec := "quantOrder", inPlace := ["math.Float64bits", "math.Float64frombits", "math.RoundToEven"], apart := false }
def QuantOrderSaid : Prop := quantOrderRow.holds Try.pinned (OpenSpec.ofChange quantOrderSpec)

/-- ITS FALSE NEIGHBOUR: 'it returns false'. Refute it at one input. -/
def quantOrderWrong : ChangeSpec := { name := "quantOrder", fn := fun _ => fun
  | [d1, d2, d3] => { results := [.lit (.bool false)], args := [d1, d2, d3] }
  | _ => none }
def QuantOrderWrongFalsely : Prop := quantOrderRow.holds Try.pinned (OpenSpec.ofChange quantOrderWrong)

/- THE SECOND FORM. 'bulk': how many values and letters a reading holds, each counted each time it is reached (what is shared counts as often as it is met; a slice's spare places count too). A statement '..UptoSaid' is the law's where the arguments, and the package variables that the reading takes, are together of bulk at most 1048576: NARROWER than '..Said'. Prove '..Said' where nothing that the law and all that it calls make is longer than what came in: it says more and counts as full. Else prove '..UptoSaid'. A law counts once. -/
mutual
def uptoBulk {H : Type} : DataW H → Nat
  | .lit (.string bytes) => bytes.length + 1
  | .lit _ => 1
  | .nil => 1
  | .ptr d => uptoBulk d + 1
  | .slice elems spare => uptoBulkAll elems + uptoBulkAll spare + 1
  | .agg parts => uptoBulkAll parts + 1
  | .iface _ d => uptoBulk d + 1
  | .map entries => uptoBulkEntries entries + 1
  | .held _ => 1
def uptoBulkAll {H : Type} : List (DataW H) → Nat
  | [] => 0
  | d :: r => uptoBulk d + uptoBulkAll r
def uptoBulkEntries {H : Type} : List (Lit × DataW H) → Nat
  | [] => 0
  | x :: r => uptoBulkEntry x + uptoBulkEntries r
def uptoBulkEntry {H : Type} : Lit × DataW H → Nat
  | (.string bytes, d) => bytes.length + uptoBulk d + 1
  | (_, d) => uptoBulk d + 1
 end
def uptoSmall : (H : Type) → List (DataW H) → Bool := fun _ ds => decide (uptoBulkAll ds ≤ 1048576)
def OpenSpec.upto (s : _root_.Go.ChangeSpec) : _root_.Go.OpenSpec := { _root_.Go.OpenSpec.ofChange s with cond := some uptoSmall }

/-- 'tallymanlaw08.QuantBack', WHERE WHAT IT READS IS OF BULK AT MOST 1048576: true; the input reads as it did. -/
def quantBackUptoRow : OpenClaim := { program := "ytgmmdhefcijgeaa", sum := "51ac8e14a0c0fd64cdf001a199f5d26b9f3d9dc4a0bf75c9ac53233a4ecc0ac1", func := "tallyman/tallymanlaw08.QuantBack", spec := "quantBack", inPlace := ["math.Float64bits", "math.Float64frombits", "math.RoundToEven"], apart := false, narrowed := true }
def QuantBackUptoSaid : Prop := quantBackUptoRow.holds Try.pinned (OpenSpec.upto quantBackSpec)

/-- 'tallymanlaw08.QuantNear', WHERE WHAT IT READS IS OF BULK AT MOST 1048576: true; the input reads as it did. -/
def quantNearUptoRow : OpenClaim := { program := "ytgmmdhefcijgeaa", sum := "51ac8e14a0c0fd64cdf001a199f5d26b9f3d9dc4a0bf75c9ac53233a4ecc0ac1", func := "tallyman/tallymanlaw08.QuantNear", spec := "quantNear", inPlace := ["math.Float64bits", "math.Float64frombits", "math.RoundToEven"], apart := false, narrowed := true }
def QuantNearUptoSaid : Prop := quantNearUptoRow.holds Try.pinned (OpenSpec.upto quantNearSpec)

/-- 'tallymanlaw08.QuantVecs', WHERE WHAT IT READS IS OF BULK AT MOST 1048576: true; the input reads as it did. -/
def quantVecsUptoRow : OpenClaim := { program := "ytgmmdhefcijgeaa", sum := "51ac8e14a0c0fd64cdf001a199f5d26b9f3d9dc4a0bf75c9ac53233a4ecc0ac1", func := "tallyman/tallymanlaw08.QuantVecs", spec := "quantVecs", inPlace := ["math.Float64bits", "math.Float64frombits", "math.RoundToEven"], apart := false, narrowed := true }
def QuantVecsUptoSaid : Prop := quantVecsUptoRow.holds Try.pinned (OpenSpec.upto quantVecsSpec)

/-- 'tallymanlaw08.QuantOrder', WHERE WHAT IT READS IS OF BULK AT MOST 1048576: true; the input reads as it did. -/
def quantOrderUptoRow : OpenClaim := { program := "ytgmmdhefcijgeaa", sum := "51ac8e14a0c0fd64cdf001a199f5d26b9f3d9dc4a0bf75c9ac53233a4ecc0ac1", func := "tallyman/tallymanlaw08.QuantOrder", spec := "quantOrder", inPlace := ["math.Float64bits", "math.Float64frombits", "math.RoundToEven"], apart := false, narrowed := true }
def QuantOrderUptoSaid : Prop := quantOrderUptoRow.holds Try.pinned (OpenSpec.upto quantOrderSpec)

end Rows
end Go.Proofs.Ytgmmdhefcijgeaa
