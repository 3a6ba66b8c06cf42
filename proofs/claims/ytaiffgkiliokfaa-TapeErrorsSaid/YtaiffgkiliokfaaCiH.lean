/-
  The document's circuits: Check, of whatever kind and field.
-/
import Derived.Test.YtaiffgkiliokfaaCiE
import Derived.Test.YtaiffgkiliokfaaCiF
namespace Go.Proofs.Ytaiffgkiliokfaa
open Go.RowKit Flow
set_option linter.unusedVariables false
set_option linter.unusedSimpArgs false

end Go.Proofs.Ytaiffgkiliokfaa
