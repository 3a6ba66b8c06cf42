/-
  DERIVED. GIVEN WITH THE SEED: THE CARDS: each row of YtailpfbdanhpmaaDoorRows.lean that lists a variable, with what it lists TIED to the program's text (the seventh form; the later family's looks); each row that meets fmt, with fmt's text TOLD by the authors' own Lean function (tested against real Go, not proved from fmt's source: count such statements apart). THE CARD IS WHAT COUNTS. Prove the row's statement (the work); the ties are given (YtailpfbdanhpmaaDoorTie.lean); close each card by the builder's one call (the guide's Derived/Test/ToyasCard.lean, 'card_holds'). Laid BY PROGRAM, IN A SANDBOX (cutbox-door.mjs). By AI agents, Wed Nov 11 2026. No macro, syntax, notation, axiom, sorry.
-/
import Derived.Test.YtailpfbdanhpmaaDoorRows
import GoSem.ClaimSeven
namespace Go.Proofs.YtailpfbdanhpmaaDoor
namespace Rows

/-- THE TIED CARD OF 'tallymanlaw09.GadgetPolys'. -/
def gadgetPolysCard : Claim7 := { stood := { row := gadgetPolysRow, standIns := [], harness := (true, "56cc41ce2947286aadaedf687d2cbbbccc10803169132b469858042a00ee2152"), looks := false }, kinds := [], alts := [], laidByText := true, laidKinds := [.data, .data], laidTests := true, laidLooks := .later }
def GadgetPolysCardSaid : Prop := Claim7.holds Tryd.pinned (.plain (OpenSpec.ofChange gadgetPolysSpec)) gadgetPolysCard

/-- THE TIED CARD OF 'tallymanlaw09.GadgetChecks'. -/
def gadgetChecksCard : Claim7 := { stood := { row := gadgetChecksRow, standIns := [], harness := (true, "56cc41ce2947286aadaedf687d2cbbbccc10803169132b469858042a00ee2152"), looks := false }, kinds := [], alts := [], laidByText := true, laidKinds := [.data, .data], laidTests := true, laidLooks := .later }
def GadgetChecksCardSaid : Prop := Claim7.holds Tryd.pinned (.plain (OpenSpec.ofChange gadgetChecksSpec)) gadgetChecksCard

/-- THE SECOND FORM's CARD OF 'tallymanlaw09.GadgetPolys'. -/
def gadgetPolysUptoCard : Claim7 := { stood := { row := gadgetPolysUptoRow, standIns := [], harness := (true, "56cc41ce2947286aadaedf687d2cbbbccc10803169132b469858042a00ee2152"), looks := false }, kinds := [], alts := [], laidByText := true, laidKinds := [.data, .data], laidTests := true, laidLooks := .later }
def GadgetPolysUptoCardSaid : Prop := Claim7.holds Tryd.pinned (.plain (OpenSpec.upto gadgetPolysSpec)) gadgetPolysUptoCard

/-- THE SECOND FORM's CARD OF 'tallymanlaw09.GadgetChecks'. -/
def gadgetChecksUptoCard : Claim7 := { stood := { row := gadgetChecksUptoRow, standIns := [], harness := (true, "56cc41ce2947286aadaedf687d2cbbbccc10803169132b469858042a00ee2152"), looks := false }, kinds := [], alts := [], laidByText := true, laidKinds := [.data, .data], laidTests := true, laidLooks := .later }
def GadgetChecksUptoCardSaid : Prop := Claim7.holds Tryd.pinned (.plain (OpenSpec.upto gadgetChecksSpec)) gadgetChecksUptoCard
end Rows
end Go.Proofs.YtailpfbdanhpmaaDoor
