/-
  Contracts of package gold.
-/
import Derived.Test.YtobannolnjmegaaRefE
import Derived.Test.YtobannolnjmegaaShelf
import Derived.Test.YtobannolnjmegaaDivMath
import Derived.Deep.DeepCutAuto
import Derived.Deep.CutBlock
namespace Go.Proofs.Ytobannolnjmegaa
open Go.RowKit F Flow

theorem below_drewN {B : Nat} {a w : World} (h : Below B a w) (n : Nat) : Below B a (w.drewN n) := ⟨h.os, h.tape, h.output, h.size, h.block⟩
theorem ret_two {a b c d : Int} (h1 : a = c) (h2 : b = d) : Ending.returned (.tuple #[.int .u64 a, .int .u64 b]) = Ending.returned (.tuple #[.int .u64 c, .int .u64 d]) := by rw [h1, h2]

theorem divmod_rem (a b : Int) : (a % 18446744069414584321 * 18446744073709551616 + b) % 18446744069414584321 = (a * 18446744073709551616 + b) % 18446744069414584321 := by omega

end Go.Proofs.Ytobannolnjmegaa
