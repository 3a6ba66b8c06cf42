/-
  Contracts of package field at what is no field.
-/
import Derived.Test.YtklhefbldjhkpaaFieldC
import Derived.Test.YtklhefbldjhkpaaElems
namespace Go.Proofs.Ytklhefbldjhkpaa
open Go.RowKit F Flow
set_option linter.unusedVariables false
attribute [local go_sem] eql_elem

/-- What is no field. -/
structure NoField (n : Int) : Prop where
  one : ((n : Int) == 1) = false
  two : ((n : Int) == 2) = false
end Go.Proofs.Ytklhefbldjhkpaa
