/-
  The document's circuits: Check.
-/
import Derived.Test.YtpojhomccmfffaaDoorDA
namespace Go.Proofs.YtpojhomccmfffaaDoor
open Go.RowKit Flow
set_option linter.unusedVariables false
set_option linter.unusedSimpArgs false

end Go.Proofs.YtpojhomccmfffaaDoor
