/-
  DERIVED. GIVEN WITH THE SEED: THE CARDS: each row of YtindmdokdcldaaaDoorRows.lean that lists a variable, with what it lists TIED to the program's text (the seventh form; the later family's looks); each row that meets fmt, with fmt's text TOLD by the authors' own Lean function (tested against real Go, not proved from fmt's source: count such statements apart). THE CARD IS WHAT COUNTS. Prove the row's statement (the work); the ties are given (YtindmdokdcldaaaDoorTie.lean); close each card by the builder's one call (the guide's Derived/Test/ToyasCard.lean, 'card_holds'). Laid BY PROGRAM, IN A SANDBOX (cutbox-door.mjs). By AI agents, Wed Nov 11 2026. No macro, syntax, notation, axiom, sorry.
-/
import Derived.Test.YtindmdokdcldaaaDoorRows
import GoSem.ClaimSeven
namespace Go.Proofs.YtindmdokdcldaaaDoor
namespace Rows

/-- THE TIED CARD OF 'tallymanlaw06.KeccakPermutes'. -/
def keccakPermutesCard : Claim7 := { stood := { row := keccakPermutesRow, standIns := [], harness := (true, "7bcca5e343c03c1a84f1524d81aedec06d4b14380cea478a7efeb43cd900b3b9"), looks := false }, kinds := [], alts := [], laidByText := true, laidKinds := [.data, .data], laidTests := true, laidLooks := .later }
def KeccakPermutesCardSaid : Prop := Claim7.holds Tryd.pinned (.plain (OpenSpec.ofChange keccakPermutesSpec)) keccakPermutesCard

/-- THE TIED CARD OF 'tallymanlaw06.KeccakEdges'. -/
def keccakEdgesCard : Claim7 := { stood := { row := keccakEdgesRow, standIns := [], harness := (true, "7bcca5e343c03c1a84f1524d81aedec06d4b14380cea478a7efeb43cd900b3b9"), looks := false }, kinds := [], alts := [], laidByText := true, laidKinds := [.data, .data], laidTests := true, laidLooks := .later }
def KeccakEdgesCardSaid : Prop := Claim7.holds Tryd.pinned (.plain (OpenSpec.ofChange keccakEdgesSpec)) keccakEdgesCard

/-- THE TIED CARD OF 'tallymanlaw06.KeccakNone'. -/
def keccakNoneCard : Claim7 := { stood := { row := keccakNoneRow, standIns := [], harness := (true, "7bcca5e343c03c1a84f1524d81aedec06d4b14380cea478a7efeb43cd900b3b9"), looks := false }, kinds := [], alts := [], laidByText := true, laidKinds := [.data, .data], laidTests := true, laidLooks := .later }
def KeccakNoneCardSaid : Prop := Claim7.holds Tryd.pinned (.plain (OpenSpec.ofChange keccakNoneSpec)) keccakNoneCard

/-- THE SECOND FORM's CARD OF 'tallymanlaw06.KeccakPermutes'. -/
def keccakPermutesUptoCard : Claim7 := { stood := { row := keccakPermutesUptoRow, standIns := [], harness := (true, "7bcca5e343c03c1a84f1524d81aedec06d4b14380cea478a7efeb43cd900b3b9"), looks := false }, kinds := [], alts := [], laidByText := true, laidKinds := [.data, .data], laidTests := true, laidLooks := .later }
def KeccakPermutesUptoCardSaid : Prop := Claim7.holds Tryd.pinned (.plain (OpenSpec.upto keccakPermutesSpec)) keccakPermutesUptoCard

/-- THE SECOND FORM's CARD OF 'tallymanlaw06.KeccakEdges'. -/
def keccakEdgesUptoCard : Claim7 := { stood := { row := keccakEdgesUptoRow, standIns := [], harness := (true, "7bcca5e343c03c1a84f1524d81aedec06d4b14380cea478a7efeb43cd900b3b9"), looks := false }, kinds := [], alts := [], laidByText := true, laidKinds := [.data, .data], laidTests := true, laidLooks := .later }
def KeccakEdgesUptoCardSaid : Prop := Claim7.holds Tryd.pinned (.plain (OpenSpec.upto keccakEdgesSpec)) keccakEdgesUptoCard

/-- THE SECOND FORM's CARD OF 'tallymanlaw06.KeccakNone'. -/
def keccakNoneUptoCard : Claim7 := { stood := { row := keccakNoneUptoRow, standIns := [], harness := (true, "7bcca5e343c03c1a84f1524d81aedec06d4b14380cea478a7efeb43cd900b3b9"), looks := false }, kinds := [], alts := [], laidByText := true, laidKinds := [.data, .data], laidTests := true, laidLooks := .later }
def KeccakNoneUptoCardSaid : Prop := Claim7.holds Tryd.pinned (.plain (OpenSpec.upto keccakNoneSpec)) keccakNoneUptoCard
end Rows
end Go.Proofs.YtindmdokdcldaaaDoor
