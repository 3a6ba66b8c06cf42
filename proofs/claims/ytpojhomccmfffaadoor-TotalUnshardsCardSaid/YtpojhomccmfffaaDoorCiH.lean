/-
  The document's circuits: Check, of whatever kind and field.
-/
import Derived.Test.YtpojhomccmfffaaDoorCiE
import Derived.Test.YtpojhomccmfffaaDoorCiF
namespace Go.Proofs.YtpojhomccmfffaaDoor
open Go.RowKit Flow
set_option linter.unusedVariables false
set_option linter.unusedSimpArgs false

end Go.Proofs.YtpojhomccmfffaaDoor
