/-
  The frame of a law whose row lists package variables, plain tables, as the program lays them (a tied card).
-/
import Derived.Test.YtmnnfecipkdgfaaDoorFrame
import Derived.Test.YtmnnfecipkdgfaaDoorCards
import Derived.Test.YtmnnfecipkdgfaaDoorTie
import Derived.ProofKit
import Derived.LaidMore
import Derived.OpenShut
import Derived.Stop.Joined
import Derived.SevenTiedAt
namespace Go.Proofs.YtmnnfecipkdgfaaDoor
open Go.ChangeShapes Go.WideShapes Go.ChangeAt Go.WideElems Go.RowKit

theorem card_own : ownKnob Tryd.prog.godebug = none := by kernel_rfl

end Go.Proofs.YtmnnfecipkdgfaaDoor
