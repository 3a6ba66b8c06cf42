/-
  The document's own sums of polynomials.
-/
import Derived.Test.YtailpfbdanhpmaaDoorPoG
import Derived.Deep.DeepCutAuto
import Derived.Deep.CutBlock
namespace Go.Proofs.YtailpfbdanhpmaaDoor
open Go.RowKit F Flow
set_option linter.unusedVariables false
set_option linter.unusedSimpArgs false
attribute [local go_sem] eql_elem

theorem add_zero_in {f x : Int} (h : 0 ≤ x ∧ x < M f) : add f 0 x = x ∧ add f x 0 = x := by
  have h0 : redu f 0 = 0 := redu_zero f
  unfold add
  rw [redu_of_lt h.1 h.2, h0, Int.zero_add, Int.add_zero]
  exact ⟨Int.emod_eq_of_lt h.1 h.2, Int.emod_eq_of_lt h.1 h.2⟩
end Go.Proofs.YtailpfbdanhpmaaDoor
