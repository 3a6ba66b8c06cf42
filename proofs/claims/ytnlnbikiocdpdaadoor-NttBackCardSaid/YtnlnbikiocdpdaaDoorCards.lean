/-
  DERIVED. GIVEN WITH THE SEED: THE CARDS: each row of YtnlnbikiocdpdaaDoorRows.lean that lists a variable, with what it lists TIED to the program's text (the seventh form; the later family's looks); each row that meets fmt, with fmt's text TOLD by the authors' own Lean function (tested against real Go, not proved from fmt's source: count such statements apart). THE CARD IS WHAT COUNTS. Prove the row's statement (the work); the ties are given (YtnlnbikiocdpdaaDoorTie.lean); close each card by the builder's one call (the guide's Derived/Test/ToyasCard.lean, 'card_holds'). Laid BY PROGRAM, IN A SANDBOX (cutbox-door.mjs). By AI agents, Wed Nov 11 2026. No macro, syntax, notation, axiom, sorry.
-/
import Derived.Test.YtnlnbikiocdpdaaDoorRows
import GoSem.ClaimSeven
namespace Go.Proofs.YtnlnbikiocdpdaaDoor
namespace Rows

/-- THE TIED CARD OF 'tallymanlaw04.NttValues'. -/
def nttValuesCard : Claim7 := { stood := { row := nttValuesRow, standIns := [], harness := (true, "fe93634a65b93c1ef765f0c76ec89a76bbde6ff62decee4fc3934a8ef3f19165"), looks := false }, kinds := [], alts := [], laidByText := true, laidKinds := [.data, .data], laidTests := true, laidLooks := .later }
def NttValuesCardSaid : Prop := Claim7.holds Tryd.pinned (.plain (OpenSpec.ofChange nttValuesSpec)) nttValuesCard

/-- THE TIED CARD OF 'tallymanlaw04.NttBack'. -/
def nttBackCard : Claim7 := { stood := { row := nttBackRow, standIns := [], harness := (true, "fe93634a65b93c1ef765f0c76ec89a76bbde6ff62decee4fc3934a8ef3f19165"), looks := false }, kinds := [], alts := [], laidByText := true, laidKinds := [.data, .data], laidTests := true, laidLooks := .later }
def NttBackCardSaid : Prop := Claim7.holds Tryd.pinned (.plain (OpenSpec.ofChange nttBackSpec)) nttBackCard

/-- THE TIED CARD OF 'tallymanlaw04.NttSizes'. -/
def nttSizesCard : Claim7 := { stood := { row := nttSizesRow, standIns := [], harness := (true, "fe93634a65b93c1ef765f0c76ec89a76bbde6ff62decee4fc3934a8ef3f19165"), looks := false }, kinds := [], alts := [], laidByText := true, laidKinds := [.data, .data], laidTests := true, laidLooks := .later }
def NttSizesCardSaid : Prop := Claim7.holds Tryd.pinned (.plain (OpenSpec.ofChange nttSizesSpec)) nttSizesCard

/-- THE SECOND FORM's CARD OF 'tallymanlaw04.NttValues'. -/
def nttValuesUptoCard : Claim7 := { stood := { row := nttValuesUptoRow, standIns := [], harness := (true, "fe93634a65b93c1ef765f0c76ec89a76bbde6ff62decee4fc3934a8ef3f19165"), looks := false }, kinds := [], alts := [], laidByText := true, laidKinds := [.data, .data], laidTests := true, laidLooks := .later }
def NttValuesUptoCardSaid : Prop := Claim7.holds Tryd.pinned (.plain (OpenSpec.upto nttValuesSpec)) nttValuesUptoCard

/-- THE SECOND FORM's CARD OF 'tallymanlaw04.NttBack'. -/
def nttBackUptoCard : Claim7 := { stood := { row := nttBackUptoRow, standIns := [], harness := (true, "fe93634a65b93c1ef765f0c76ec89a76bbde6ff62decee4fc3934a8ef3f19165"), looks := false }, kinds := [], alts := [], laidByText := true, laidKinds := [.data, .data], laidTests := true, laidLooks := .later }
def NttBackUptoCardSaid : Prop := Claim7.holds Tryd.pinned (.plain (OpenSpec.upto nttBackSpec)) nttBackUptoCard

/-- THE SECOND FORM's CARD OF 'tallymanlaw04.NttSizes'. -/
def nttSizesUptoCard : Claim7 := { stood := { row := nttSizesUptoRow, standIns := [], harness := (true, "fe93634a65b93c1ef765f0c76ec89a76bbde6ff62decee4fc3934a8ef3f19165"), looks := false }, kinds := [], alts := [], laidByText := true, laidKinds := [.data, .data], laidTests := true, laidLooks := .later }
def NttSizesUptoCardSaid : Prop := Claim7.holds Tryd.pinned (.plain (OpenSpec.upto nttSizesSpec)) nttSizesUptoCard
end Rows
end Go.Proofs.YtnlnbikiocdpdaaDoor
