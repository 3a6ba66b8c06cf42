/-
  The document's circuits: Check, of field 2.
-/
import Derived.Test.YtpojhomccmfffaaDoorDA
namespace Go.Proofs.YtpojhomccmfffaaDoor
open Go.RowKit Flow
set_option linter.unusedVariables false
set_option linter.unusedSimpArgs false

end Go.Proofs.YtpojhomccmfffaaDoor
