/-
  DERIVED. GIVEN WITH THE SEED: THE CARDS: each row of YtebgfelbffgnbaaGreatDoorRows.lean that lists a variable, with what it lists TIED to the program's text (the seventh form; the later family's looks); each row that meets fmt, with fmt's text TOLD by the authors' own Lean function (tested against real Go, not proved from fmt's source: count such statements apart). THE CARD IS WHAT COUNTS. Prove the row's statement (the work); the ties are given (YtebgfelbffgnbaaGreatDoorTie.lean); close each card by the builder's one call (the guide's Derived/Test/ToyasCard.lean, 'card_holds'). Laid BY PROGRAM, IN A SANDBOX (cutbox-door.mjs). By AI agents, Wed Nov 11 2026. No macro, syntax, notation, axiom, sorry.
-/
import Derived.Test.YtebgfelbffgnbaaGreatDoorRows
import GoSem.ClaimSeven
namespace Go.Proofs.YtebgfelbffgnbaaGreatDoor
namespace Rows

/-- THE TIED CARD OF 'tallymanlaw11.ProofRight'. -/
def proofRightCard : Claim7 := { stood := { row := proofRightRow, standIns := [], harness := (true, "229fd1e5923dd0e39d7181f184882a15a56269343afc1447cef8b798280aab85"), looks := false }, kinds := [], alts := [], laidByText := true, laidKinds := [.data, .data], laidTests := true, laidLooks := .later }
def ProofRightCardSaid : Prop := Claim7.holds Tryz.pinned (.plain (OpenSpec.ofChange proofRightSpec)) proofRightCard

/-- THE TIED CARD OF 'tallymanlaw11.ProofQueries'. -/
def proofQueriesCard : Claim7 := { stood := { row := proofQueriesRow, standIns := [], harness := (true, "229fd1e5923dd0e39d7181f184882a15a56269343afc1447cef8b798280aab85"), looks := false }, kinds := [], alts := [], laidByText := true, laidKinds := [.data, .data], laidTests := true, laidLooks := .later }
def ProofQueriesCardSaid : Prop := Claim7.holds Tryz.pinned (.plain (OpenSpec.ofChange proofQueriesSpec)) proofQueriesCard

/-- THE TIED CARD OF 'tallymanlaw11.ProofShares'. -/
def proofSharesCard : Claim7 := { stood := { row := proofSharesRow, standIns := [], harness := (true, "229fd1e5923dd0e39d7181f184882a15a56269343afc1447cef8b798280aab85"), looks := false }, kinds := [], alts := [], laidByText := true, laidKinds := [.data, .data], laidTests := true, laidLooks := .later }
def ProofSharesCardSaid : Prop := Claim7.holds Tryz.pinned (.plain (OpenSpec.ofChange proofSharesSpec)) proofSharesCard

/-- THE TIED CARD OF 'tallymanlaw11.ProofWrong'. -/
def proofWrongCard : Claim7 := { stood := { row := proofWrongRow, standIns := [], harness := (true, "229fd1e5923dd0e39d7181f184882a15a56269343afc1447cef8b798280aab85"), looks := false }, kinds := [], alts := [], laidByText := true, laidKinds := [.data, .data], laidTests := true, laidLooks := .later }
def ProofWrongCardSaid : Prop := Claim7.holds Tryz.pinned (.plain (OpenSpec.ofChange proofWrongSpec)) proofWrongCard

/-- THE TIED CARD OF 'tallymanlaw11.ProofForged'. -/
def proofForgedCard : Claim7 := { stood := { row := proofForgedRow, standIns := [], harness := (true, "229fd1e5923dd0e39d7181f184882a15a56269343afc1447cef8b798280aab85"), looks := false }, kinds := [], alts := [], laidByText := true, laidKinds := [.data, .data], laidTests := true, laidLooks := .later }
def ProofForgedCardSaid : Prop := Claim7.holds Tryz.pinned (.plain (OpenSpec.ofChange proofForgedSpec)) proofForgedCard

/-- THE TIED CARD OF 'tallymanlaw11.ProofJoint'. -/
def proofJointCard : Claim7 := { stood := { row := proofJointRow, standIns := [], harness := (true, "229fd1e5923dd0e39d7181f184882a15a56269343afc1447cef8b798280aab85"), looks := false }, kinds := [], alts := [], laidByText := true, laidKinds := [.data, .data], laidTests := true, laidLooks := .later }
def ProofJointCardSaid : Prop := Claim7.holds Tryz.pinned (.plain (OpenSpec.ofChange proofJointSpec)) proofJointCard

/-- THE TIED CARD OF 'tallymanlaw11.ProofErrors'. -/
def proofErrorsCard : Claim7 := { stood := { row := proofErrorsRow, standIns := [], harness := (true, "229fd1e5923dd0e39d7181f184882a15a56269343afc1447cef8b798280aab85"), looks := false }, kinds := [], alts := [], laidByText := true, laidKinds := [.data, .data], laidTests := true, laidLooks := .later }
def ProofErrorsCardSaid : Prop := Claim7.holds Tryz.pinned (.plain (OpenSpec.ofChange proofErrorsSpec)) proofErrorsCard

/-- THE SECOND FORM's CARD OF 'tallymanlaw11.ProofRight'. -/
def proofRightUptoCard : Claim7 := { stood := { row := proofRightUptoRow, standIns := [], harness := (true, "229fd1e5923dd0e39d7181f184882a15a56269343afc1447cef8b798280aab85"), looks := false }, kinds := [], alts := [], laidByText := true, laidKinds := [.data, .data], laidTests := true, laidLooks := .later }
def ProofRightUptoCardSaid : Prop := Claim7.holds Tryz.pinned (.plain (OpenSpec.upto proofRightSpec)) proofRightUptoCard

/-- THE SECOND FORM's CARD OF 'tallymanlaw11.ProofQueries'. -/
def proofQueriesUptoCard : Claim7 := { stood := { row := proofQueriesUptoRow, standIns := [], harness := (true, "229fd1e5923dd0e39d7181f184882a15a56269343afc1447cef8b798280aab85"), looks := false }, kinds := [], alts := [], laidByText := true, laidKinds := [.data, .data], laidTests := true, laidLooks := .later }
def ProofQueriesUptoCardSaid : Prop := Claim7.holds Tryz.pinned (.plain (OpenSpec.upto proofQueriesSpec)) proofQueriesUptoCard

/-- THE SECOND FORM's CARD OF 'tallymanlaw11.ProofShares'. -/
def proofSharesUptoCard : Claim7 := { stood := { row := proofSharesUptoRow, standIns := [], harness := (true, "229fd1e5923dd0e39d7181f184882a15a56269343afc1447cef8b798280aab85"), looks := false }, kinds := [], alts := [], laidByText := true, laidKinds := [.data, .data], laidTests := true, laidLooks := .later }
def ProofSharesUptoCardSaid : Prop := Claim7.holds Tryz.pinned (.plain (OpenSpec.upto proofSharesSpec)) proofSharesUptoCard

/-- THE SECOND FORM's CARD OF 'tallymanlaw11.ProofWrong'. -/
def proofWrongUptoCard : Claim7 := { stood := { row := proofWrongUptoRow, standIns := [], harness := (true, "229fd1e5923dd0e39d7181f184882a15a56269343afc1447cef8b798280aab85"), looks := false }, kinds := [], alts := [], laidByText := true, laidKinds := [.data, .data], laidTests := true, laidLooks := .later }
def ProofWrongUptoCardSaid : Prop := Claim7.holds Tryz.pinned (.plain (OpenSpec.upto proofWrongSpec)) proofWrongUptoCard

/-- THE SECOND FORM's CARD OF 'tallymanlaw11.ProofForged'. -/
def proofForgedUptoCard : Claim7 := { stood := { row := proofForgedUptoRow, standIns := [], harness := (true, "229fd1e5923dd0e39d7181f184882a15a56269343afc1447cef8b798280aab85"), looks := false }, kinds := [], alts := [], laidByText := true, laidKinds := [.data, .data], laidTests := true, laidLooks := .later }
def ProofForgedUptoCardSaid : Prop := Claim7.holds Tryz.pinned (.plain (OpenSpec.upto proofForgedSpec)) proofForgedUptoCard

/-- THE SECOND FORM's CARD OF 'tallymanlaw11.ProofJoint'. -/
def proofJointUptoCard : Claim7 := { stood := { row := proofJointUptoRow, standIns := [], harness := (true, "229fd1e5923dd0e39d7181f184882a15a56269343afc1447cef8b798280aab85"), looks := false }, kinds := [], alts := [], laidByText := true, laidKinds := [.data, .data], laidTests := true, laidLooks := .later }
def ProofJointUptoCardSaid : Prop := Claim7.holds Tryz.pinned (.plain (OpenSpec.upto proofJointSpec)) proofJointUptoCard

/-- THE SECOND FORM's CARD OF 'tallymanlaw11.ProofErrors'. -/
def proofErrorsUptoCard : Claim7 := { stood := { row := proofErrorsUptoRow, standIns := [], harness := (true, "229fd1e5923dd0e39d7181f184882a15a56269343afc1447cef8b798280aab85"), looks := false }, kinds := [], alts := [], laidByText := true, laidKinds := [.data, .data], laidTests := true, laidLooks := .later }
def ProofErrorsUptoCardSaid : Prop := Claim7.holds Tryz.pinned (.plain (OpenSpec.upto proofErrorsSpec)) proofErrorsUptoCard
end Rows
end Go.Proofs.YtebgfelbffgnbaaGreatDoor
