/-
  Contracts of package field: the rest of one element's.
-/
import Derived.Test.YtklhefbldjhkpaaFieldA
namespace Go.Proofs.Ytklhefbldjhkpaa
open Go.RowKit F Flow
set_option linter.unusedVariables false
attribute [local go_sem] eql_elem

end Go.Proofs.Ytklhefbldjhkpaa
