/-
  Contracts of the reference's elements: sums, differences.
-/
import Derived.Test.YtobannolnjmegaaRefB
import Derived.Lib.Hide
namespace Go.Proofs.Ytobannolnjmegaa
open Go.RowKit F Flow


end Go.Proofs.Ytobannolnjmegaa
