/-
  Contracts of package gold: sums, differences, products, powers.
-/
import Derived.Test.YtklhefbldjhkpaaGoldA
namespace Go.Proofs.Ytklhefbldjhkpaa
open Go.RowKit F Flow

theorem ret_u64 {a c : Int} (h1 : a = c) : Ending.returned (.int .u64 a) = Ending.returned (.int .u64 c) := by rw [h1]

end Go.Proofs.Ytklhefbldjhkpaa
