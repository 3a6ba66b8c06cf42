/-
  The frame of a law whose row lists package variables, plain tables, as the program lays them (a tied card).
-/
import Derived.Test.YtfklkplnbmhddaaDoorFrame
import Derived.Test.YtfklkplnbmhddaaDoorCards
import Derived.Test.YtfklkplnbmhddaaDoorTie
import Derived.ProofKit
import Derived.LaidMore
import Derived.OpenShut
import Derived.Stop.Joined
import Derived.SevenTiedAt
namespace Go.Proofs.YtfklkplnbmhddaaDoor
open Go.ChangeShapes Go.WideShapes Go.ChangeAt Go.WideElems Go.RowKit

theorem card_own : ownKnob Tryd.prog.godebug = none := by kernel_rfl

end Go.Proofs.YtfklkplnbmhddaaDoor
