/-
  DERIVED. GIVEN WITH THE SEED: THE CARDS: each row of YtbpedpkhhjfhjaaDoorRows.lean that lists a variable, with what it lists TIED to the program's text (the seventh form; the later family's looks); each row that meets fmt, with fmt's text TOLD by the authors' own Lean function (tested against real Go, not proved from fmt's source: count such statements apart). THE CARD IS WHAT COUNTS. Prove the row's statement (the work); the ties are given (YtbpedpkhhjfhjaaDoorTie.lean); close each card by the builder's one call (the guide's Derived/Test/ToyasCard.lean, 'card_holds'). Laid BY PROGRAM, IN A SANDBOX (cutbox-door.mjs). By AI agents, Wed Nov 11 2026. No macro, syntax, notation, axiom, sorry.
-/
import Derived.Test.YtbpedpkhhjfhjaaDoorRows
import GoSem.ClaimSeven
namespace Go.Proofs.YtbpedpkhhjfhjaaDoor
namespace Rows

/-- THE TIED CARD OF 'tallymanlaw05.PolySums'. -/
def polySumsCard : Claim7 := { stood := { row := polySumsRow, standIns := [], harness := (true, "2596bca6b4fa089770beb243e1186333db0fc8a9655acbe1947555b45414fac1"), looks := false }, kinds := [], alts := [], laidByText := true, laidKinds := [.data, .data], laidTests := true, laidLooks := .later }
def PolySumsCardSaid : Prop := Claim7.holds Tryd.pinned (.plain (OpenSpec.ofChange polySumsSpec)) polySumsCard

/-- THE TIED CARD OF 'tallymanlaw05.PolyLong'. -/
def polyLongCard : Claim7 := { stood := { row := polyLongRow, standIns := [], harness := (true, "2596bca6b4fa089770beb243e1186333db0fc8a9655acbe1947555b45414fac1"), looks := false }, kinds := [], alts := [], laidByText := true, laidKinds := [.data, .data], laidTests := true, laidLooks := .later }
def PolyLongCardSaid : Prop := Claim7.holds Tryd.pinned (.plain (OpenSpec.ofChange polyLongSpec)) polyLongCard

/-- THE TIED CARD OF 'tallymanlaw05.PolyThrough'. -/
def polyThroughCard : Claim7 := { stood := { row := polyThroughRow, standIns := [], harness := (true, "2596bca6b4fa089770beb243e1186333db0fc8a9655acbe1947555b45414fac1"), looks := false }, kinds := [], alts := [], laidByText := true, laidKinds := [.data, .data], laidTests := true, laidLooks := .later }
def PolyThroughCardSaid : Prop := Claim7.holds Tryd.pinned (.plain (OpenSpec.ofChange polyThroughSpec)) polyThroughCard

/-- THE TIED CARD OF 'tallymanlaw05.PolyLagrange'. -/
def polyLagrangeCard : Claim7 := { stood := { row := polyLagrangeRow, standIns := [], harness := (true, "2596bca6b4fa089770beb243e1186333db0fc8a9655acbe1947555b45414fac1"), looks := false }, kinds := [], alts := [], laidByText := true, laidKinds := [.data, .data], laidTests := true, laidLooks := .later }
def PolyLagrangeCardSaid : Prop := Claim7.holds Tryd.pinned (.plain (OpenSpec.ofChange polyLagrangeSpec)) polyLagrangeCard

/-- THE TIED CARD OF 'tallymanlaw05.PolyNone'. -/
def polyNoneCard : Claim7 := { stood := { row := polyNoneRow, standIns := [], harness := (true, "2596bca6b4fa089770beb243e1186333db0fc8a9655acbe1947555b45414fac1"), looks := false }, kinds := [], alts := [], laidByText := true, laidKinds := [.data, .data], laidTests := true, laidLooks := .later }
def PolyNoneCardSaid : Prop := Claim7.holds Tryd.pinned (.plain (OpenSpec.ofChange polyNoneSpec)) polyNoneCard

/-- THE TIED CARD OF 'tallymanlaw05.PolyDivides'. -/
def polyDividesCard : Claim7 := { stood := { row := polyDividesRow, standIns := [], harness := (true, "2596bca6b4fa089770beb243e1186333db0fc8a9655acbe1947555b45414fac1"), looks := false }, kinds := [], alts := [], laidByText := true, laidKinds := [.data, .data], laidTests := true, laidLooks := .later }
def PolyDividesCardSaid : Prop := Claim7.holds Tryd.pinned (.plain (OpenSpec.ofChange polyDividesSpec)) polyDividesCard

/-- THE TIED CARD OF 'tallymanlaw05.PolyCommon'. -/
def polyCommonCard : Claim7 := { stood := { row := polyCommonRow, standIns := [], harness := (true, "2596bca6b4fa089770beb243e1186333db0fc8a9655acbe1947555b45414fac1"), looks := false }, kinds := [], alts := [], laidByText := true, laidKinds := [.data, .data], laidTests := true, laidLooks := .later }
def PolyCommonCardSaid : Prop := Claim7.holds Tryd.pinned (.plain (OpenSpec.ofChange polyCommonSpec)) polyCommonCard

/-- THE SECOND FORM's CARD OF 'tallymanlaw05.PolySums'. -/
def polySumsUptoCard : Claim7 := { stood := { row := polySumsUptoRow, standIns := [], harness := (true, "2596bca6b4fa089770beb243e1186333db0fc8a9655acbe1947555b45414fac1"), looks := false }, kinds := [], alts := [], laidByText := true, laidKinds := [.data, .data], laidTests := true, laidLooks := .later }
def PolySumsUptoCardSaid : Prop := Claim7.holds Tryd.pinned (.plain (OpenSpec.upto polySumsSpec)) polySumsUptoCard

/-- THE SECOND FORM's CARD OF 'tallymanlaw05.PolyLong'. -/
def polyLongUptoCard : Claim7 := { stood := { row := polyLongUptoRow, standIns := [], harness := (true, "2596bca6b4fa089770beb243e1186333db0fc8a9655acbe1947555b45414fac1"), looks := false }, kinds := [], alts := [], laidByText := true, laidKinds := [.data, .data], laidTests := true, laidLooks := .later }
def PolyLongUptoCardSaid : Prop := Claim7.holds Tryd.pinned (.plain (OpenSpec.upto polyLongSpec)) polyLongUptoCard

/-- THE SECOND FORM's CARD OF 'tallymanlaw05.PolyThrough'. -/
def polyThroughUptoCard : Claim7 := { stood := { row := polyThroughUptoRow, standIns := [], harness := (true, "2596bca6b4fa089770beb243e1186333db0fc8a9655acbe1947555b45414fac1"), looks := false }, kinds := [], alts := [], laidByText := true, laidKinds := [.data, .data], laidTests := true, laidLooks := .later }
def PolyThroughUptoCardSaid : Prop := Claim7.holds Tryd.pinned (.plain (OpenSpec.upto polyThroughSpec)) polyThroughUptoCard

/-- THE SECOND FORM's CARD OF 'tallymanlaw05.PolyLagrange'. -/
def polyLagrangeUptoCard : Claim7 := { stood := { row := polyLagrangeUptoRow, standIns := [], harness := (true, "2596bca6b4fa089770beb243e1186333db0fc8a9655acbe1947555b45414fac1"), looks := false }, kinds := [], alts := [], laidByText := true, laidKinds := [.data, .data], laidTests := true, laidLooks := .later }
def PolyLagrangeUptoCardSaid : Prop := Claim7.holds Tryd.pinned (.plain (OpenSpec.upto polyLagrangeSpec)) polyLagrangeUptoCard

/-- THE SECOND FORM's CARD OF 'tallymanlaw05.PolyNone'. -/
def polyNoneUptoCard : Claim7 := { stood := { row := polyNoneUptoRow, standIns := [], harness := (true, "2596bca6b4fa089770beb243e1186333db0fc8a9655acbe1947555b45414fac1"), looks := false }, kinds := [], alts := [], laidByText := true, laidKinds := [.data, .data], laidTests := true, laidLooks := .later }
def PolyNoneUptoCardSaid : Prop := Claim7.holds Tryd.pinned (.plain (OpenSpec.upto polyNoneSpec)) polyNoneUptoCard

/-- THE SECOND FORM's CARD OF 'tallymanlaw05.PolyDivides'. -/
def polyDividesUptoCard : Claim7 := { stood := { row := polyDividesUptoRow, standIns := [], harness := (true, "2596bca6b4fa089770beb243e1186333db0fc8a9655acbe1947555b45414fac1"), looks := false }, kinds := [], alts := [], laidByText := true, laidKinds := [.data, .data], laidTests := true, laidLooks := .later }
def PolyDividesUptoCardSaid : Prop := Claim7.holds Tryd.pinned (.plain (OpenSpec.upto polyDividesSpec)) polyDividesUptoCard

/-- THE SECOND FORM's CARD OF 'tallymanlaw05.PolyCommon'. -/
def polyCommonUptoCard : Claim7 := { stood := { row := polyCommonUptoRow, standIns := [], harness := (true, "2596bca6b4fa089770beb243e1186333db0fc8a9655acbe1947555b45414fac1"), looks := false }, kinds := [], alts := [], laidByText := true, laidKinds := [.data, .data], laidTests := true, laidLooks := .later }
def PolyCommonUptoCardSaid : Prop := Claim7.holds Tryd.pinned (.plain (OpenSpec.upto polyCommonSpec)) polyCommonUptoCard
end Rows
end Go.Proofs.YtbpedpkhhjfhjaaDoor
