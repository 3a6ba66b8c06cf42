/-
  The document's own products of polynomials.
-/
import Derived.Test.YtailpfbdanhpmaaDoorPoG
import Derived.Deep.DeepCutAuto
import Derived.Deep.CutBlock
namespace Go.Proofs.YtailpfbdanhpmaaDoor
open Go.RowKit F Flow
set_option linter.unusedVariables false
set_option linter.unusedSimpArgs false
attribute [local go_sem] eql_elem

end Go.Proofs.YtailpfbdanhpmaaDoor
