/-
  DERIVED. GIVEN WITH THE SEED: THE CARDS: each row of YtfklkplnbmhddaaDoorRows.lean that lists a variable, with what it lists TIED to the program's text (the seventh form; the later family's looks); each row that meets fmt, with fmt's text TOLD by the authors' own Lean function (tested against real Go, not proved from fmt's source: count such statements apart). THE CARD IS WHAT COUNTS. Prove the row's statement (the work); the ties are given (YtfklkplnbmhddaaDoorTie.lean); close each card by the builder's one call (the guide's Derived/Test/ToyasCard.lean, 'card_holds'). Laid BY PROGRAM, IN A SANDBOX (cutbox-door.mjs). By AI agents, Wed Nov 11 2026. No macro, syntax, notation, axiom, sorry.
-/
import Derived.Test.YtfklkplnbmhddaaDoorRows
import GoSem.ClaimSeven
namespace Go.Proofs.YtfklkplnbmhddaaDoor
namespace Rows

/-- THE TIED CARD OF 'tallymanlaw07.XofReal'. -/
def xofRealCard : Claim7 := { stood := { row := xofRealRow, standIns := [], harness := (true, "57106ac50b3c68404ca4757b2e77d772e2b568379e323d5493325ea33a58219b"), looks := false }, kinds := [], alts := [], laidByText := true, laidKinds := [.data, .data], laidTests := true, laidLooks := .later }
def XofRealCardSaid : Prop := Claim7.holds Tryd.pinned (.plain (OpenSpec.ofChange xofRealSpec)) xofRealCard

/-- THE TIED CARD OF 'tallymanlaw07.XofVecs'. -/
def xofVecsCard : Claim7 := { stood := { row := xofVecsRow, standIns := [], harness := (true, "57106ac50b3c68404ca4757b2e77d772e2b568379e323d5493325ea33a58219b"), looks := false }, kinds := [], alts := [], laidByText := true, laidKinds := [.data, .data], laidTests := true, laidLooks := .later }
def XofVecsCardSaid : Prop := Claim7.holds Tryd.pinned (.plain (OpenSpec.ofChange xofVecsSpec)) xofVecsCard

/-- THE TIED CARD OF 'tallymanlaw07.XofStuck'. -/
def xofStuckCard : Claim7 := { stood := { row := xofStuckRow, standIns := [], harness := (true, "57106ac50b3c68404ca4757b2e77d772e2b568379e323d5493325ea33a58219b"), looks := false }, kinds := [], alts := [], laidByText := true, laidKinds := [.data, .data], laidTests := true, laidLooks := .later }
def XofStuckCardSaid : Prop := Claim7.holds Tryd.pinned (.plain (OpenSpec.ofChange xofStuckSpec)) xofStuckCard

/-- THE TIED CARD OF 'tallymanlaw07.XofNone'. -/
def xofNoneCard : Claim7 := { stood := { row := xofNoneRow, standIns := [], harness := (true, "57106ac50b3c68404ca4757b2e77d772e2b568379e323d5493325ea33a58219b"), looks := false }, kinds := [], alts := [], laidByText := true, laidKinds := [.data, .data], laidTests := true, laidLooks := .later }
def XofNoneCardSaid : Prop := Claim7.holds Tryd.pinned (.plain (OpenSpec.ofChange xofNoneSpec)) xofNoneCard

/-- THE SECOND FORM's CARD OF 'tallymanlaw07.XofReal'. -/
def xofRealUptoCard : Claim7 := { stood := { row := xofRealUptoRow, standIns := [], harness := (true, "57106ac50b3c68404ca4757b2e77d772e2b568379e323d5493325ea33a58219b"), looks := false }, kinds := [], alts := [], laidByText := true, laidKinds := [.data, .data], laidTests := true, laidLooks := .later }
def XofRealUptoCardSaid : Prop := Claim7.holds Tryd.pinned (.plain (OpenSpec.upto xofRealSpec)) xofRealUptoCard

/-- THE SECOND FORM's CARD OF 'tallymanlaw07.XofVecs'. -/
def xofVecsUptoCard : Claim7 := { stood := { row := xofVecsUptoRow, standIns := [], harness := (true, "57106ac50b3c68404ca4757b2e77d772e2b568379e323d5493325ea33a58219b"), looks := false }, kinds := [], alts := [], laidByText := true, laidKinds := [.data, .data], laidTests := true, laidLooks := .later }
def XofVecsUptoCardSaid : Prop := Claim7.holds Tryd.pinned (.plain (OpenSpec.upto xofVecsSpec)) xofVecsUptoCard

/-- THE SECOND FORM's CARD OF 'tallymanlaw07.XofStuck'. -/
def xofStuckUptoCard : Claim7 := { stood := { row := xofStuckUptoRow, standIns := [], harness := (true, "57106ac50b3c68404ca4757b2e77d772e2b568379e323d5493325ea33a58219b"), looks := false }, kinds := [], alts := [], laidByText := true, laidKinds := [.data, .data], laidTests := true, laidLooks := .later }
def XofStuckUptoCardSaid : Prop := Claim7.holds Tryd.pinned (.plain (OpenSpec.upto xofStuckSpec)) xofStuckUptoCard

/-- THE SECOND FORM's CARD OF 'tallymanlaw07.XofNone'. -/
def xofNoneUptoCard : Claim7 := { stood := { row := xofNoneUptoRow, standIns := [], harness := (true, "57106ac50b3c68404ca4757b2e77d772e2b568379e323d5493325ea33a58219b"), looks := false }, kinds := [], alts := [], laidByText := true, laidKinds := [.data, .data], laidTests := true, laidLooks := .later }
def XofNoneUptoCardSaid : Prop := Claim7.holds Tryd.pinned (.plain (OpenSpec.upto xofNoneSpec)) xofNoneUptoCard
end Rows
end Go.Proofs.YtfklkplnbmhddaaDoor
