import Derived.Test.YtpojhomccmfffaaDoorPolyAt
import Derived.Test.YtpojhomccmfffaaDoorBE
/-
  Contracts of the gadget Bit.
-/
namespace Go.Proofs.YtpojhomccmfffaaDoor
open Go.RowKit F Flow
set_option linter.unusedVariables false
attribute [local go_sem] eql_elem

/-- The gadget Bit's value, its coefficients at a block. -/
def bitVal (g : Nat) : Value := .agg #[.int .u8 2, .slice (some ⟨g, 0, none⟩) 3 3, .int .i64 0]
def bitCoefs (f : Int) : List Int := [0, neg f 1, 1]
theorem blk3 {w : World} {p : Nat} {t : TypeId} {u v x : Value} (h : w.heap[p]? = some (.cells #[u, v, x] t (0, 0))) :
    w.cell? ⟨p, 0, none⟩ = some u ∧ w.cell? ⟨p, 1, none⟩ = some v ∧ w.cell? ⟨p, 2, none⟩ = some x ∧ w.frozen? ⟨p, 0, none⟩ = false ∧ w.frozen? ⟨p, 1, none⟩ = false ∧ w.frozen? ⟨p, 2, none⟩ = false := by
  simp [World.cell?, World.frozen?, h]
theorem fin_true_one (a : Int) (a0 : 0 ≤ a) (a1 : a < M 1) (w : World) : Calls Tryd.prog 102 #[.int .u8 1, .agg #[.int .u64 (lo a), .int .u64 (hi a)]] w fun e w' => e = .returned (.bool true) ∧ Below w.heap.size w w' := by
  have h := fin_one a w
  simpa [a0, a1] using h
theorem fin_true_two (a : Int) (a0 : 0 ≤ a) (a1 : a < M 2) (w : World) : Calls Tryd.prog 102 #[.int .u8 2, .agg #[.int .u64 (lo a), .int .u64 (hi a)]] w fun e w' => e = .returned (.bool true) ∧ Below w.heap.size w w' := by
  have h := fin_two a w
  simpa [a0, a1] using h
end Go.Proofs.YtpojhomccmfffaaDoor

/-
  Contracts of the gadget Bit: Check, Of.
-/
namespace Go.Proofs.YtpojhomccmfffaaDoor
open Go.RowKit F Flow
set_option linter.unusedVariables false
attribute [local go_sem] eql_elem

end Go.Proofs.YtpojhomccmfffaaDoor
