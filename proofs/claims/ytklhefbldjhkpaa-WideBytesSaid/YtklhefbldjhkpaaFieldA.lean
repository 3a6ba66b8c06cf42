/-
  Contracts of package field: each of the two fields' sums, products, roots.
-/
import Derived.Test.YtklhefbldjhkpaaGoldRoots
import Derived.Test.YtklhefbldjhkpaaWideRoots
namespace Go.Proofs.Ytklhefbldjhkpaa
open Go.RowKit F Flow
set_option linter.unusedVariables false
attribute [local go_sem] eql_elem

theorem redu_lo1 (a : Int) : redu 1 (lo a) = redu 1 a := by unfold redu; rw [if_pos rfl, if_pos rfl, lo_lo]
theorem add_lo1 (a b : Int) : add 1 (lo a) (lo b) = add 1 a b := by unfold add; rw [redu_lo1, redu_lo1]
theorem sub_lo1 (a b : Int) : sub 1 (lo a) (lo b) = sub 1 a b := by unfold sub; rw [redu_lo1, redu_lo1]
theorem mul_lo1 (a b : Int) : mul 1 (lo a) (lo b) = mul 1 a b := by unfold mul; rw [redu_lo1, redu_lo1]
theorem neg_lo1 (a : Int) : neg 1 (lo a) = neg 1 a := by unfold neg; rw [redu_lo1]
theorem pow_lo1 (a : Int) (n : Nat) : pow 1 (lo a) n = pow 1 a n := by unfold pow; rw [redu_lo1]
end Go.Proofs.Ytklhefbldjhkpaa
