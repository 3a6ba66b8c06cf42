import Derived.Shelf.Small.Bits
import Derived.Test.YtfklkplnbmhddaaDoorProg
namespace Go.Proofs.YtfklkplnbmhddaaDoor
end Go.Proofs.YtfklkplnbmhddaaDoor
