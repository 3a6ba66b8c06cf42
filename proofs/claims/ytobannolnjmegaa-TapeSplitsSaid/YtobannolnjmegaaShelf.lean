/-
  This dump calls nothing of the library that has a contract.
-/
import Derived.Shelf.Small.Bits
import Derived.Test.YtobannolnjmegaaProg
namespace Go.Proofs.Ytobannolnjmegaa
end Go.Proofs.Ytobannolnjmegaa
