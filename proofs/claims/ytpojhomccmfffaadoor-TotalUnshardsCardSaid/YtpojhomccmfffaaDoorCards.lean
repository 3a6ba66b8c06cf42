/-
  DERIVED. GIVEN WITH THE SEED: THE CARDS: each row of YtpojhomccmfffaaDoorRows.lean that lists a variable, with what it lists TIED to the program's text (the seventh form; the later family's looks); each row that meets fmt, with fmt's text TOLD by the authors' own Lean function (tested against real Go, not proved from fmt's source: count such statements apart). THE CARD IS WHAT COUNTS. Prove the row's statement (the work); the ties are given (YtpojhomccmfffaaDoorTie.lean); close each card by the builder's one call (the guide's Derived/Test/ToyasCard.lean, 'card_holds'). Laid BY PROGRAM, IN A SANDBOX (cutbox-door.mjs). By AI agents, Wed Nov 11 2026. No macro, syntax, notation, axiom, sorry.
-/
import Derived.Test.YtpojhomccmfffaaDoorRows
import GoSem.ClaimSeven
namespace Go.Proofs.YtpojhomccmfffaaDoor
namespace Rows

/-- THE TIED CARD OF 'tallymanlaw15.TotalAdds'. -/
def totalAddsCard : Claim7 := { stood := { row := totalAddsRow, standIns := [], harness := (true, "2db1c8232e3d49f4059ef8c3f8a0ff6eaf9a8fe2e9f463ad20e13c14f2aff1ae"), looks := true }, kinds := [], alts := [], laidByText := true, laidKinds := [.data, .data], laidTests := true, laidLooks := .later }
def TotalAddsCardSaid : Prop := Claim7.holds Tryd.pinned (.plain (OpenSpec.ofChange totalAddsSpec)) totalAddsCard

/-- THE TIED CARD OF 'tallymanlaw15.TotalUnshards'. -/
def totalUnshardsCard : Claim7 := { stood := { row := totalUnshardsRow, standIns := [], harness := (true, "2db1c8232e3d49f4059ef8c3f8a0ff6eaf9a8fe2e9f463ad20e13c14f2aff1ae"), looks := true }, kinds := [], alts := [], laidByText := true, laidKinds := [.data, .data], laidTests := true, laidLooks := .later }
def TotalUnshardsCardSaid : Prop := Claim7.holds Tryd.pinned (.plain (OpenSpec.ofChange totalUnshardsSpec)) totalUnshardsCard

/-- THE TIED CARD OF 'tallymanlaw15.TotalBytes'. -/
def totalBytesCard : Claim7 := { stood := { row := totalBytesRow, standIns := [], harness := (true, "2db1c8232e3d49f4059ef8c3f8a0ff6eaf9a8fe2e9f463ad20e13c14f2aff1ae"), looks := true }, kinds := [], alts := [], laidByText := true, laidKinds := [.data, .data], laidTests := true, laidLooks := .later }
def TotalBytesCardSaid : Prop := Claim7.holds Tryd.pinned (.plain (OpenSpec.ofChange totalBytesSpec)) totalBytesCard

/-- THE TIED CARD OF 'tallymanlaw15.TotalErrors'. -/
def totalErrorsCard : Claim7 := { stood := { row := totalErrorsRow, standIns := [], harness := (true, "2db1c8232e3d49f4059ef8c3f8a0ff6eaf9a8fe2e9f463ad20e13c14f2aff1ae"), looks := true }, kinds := [], alts := [], laidByText := true, laidKinds := [.data, .data], laidTests := true, laidLooks := .later }
def TotalErrorsCardSaid : Prop := Claim7.holds Tryd.pinned (.plain (OpenSpec.ofChange totalErrorsSpec)) totalErrorsCard

/-- THE TIED CARD OF 'tallymanlaw19.BucketStarts'. -/
def bucketStartsCard : Claim7 := { stood := { row := bucketStartsRow, standIns := [], harness := (true, "2db1c8232e3d49f4059ef8c3f8a0ff6eaf9a8fe2e9f463ad20e13c14f2aff1ae"), looks := true }, kinds := [], alts := [], laidByText := true, laidKinds := [.data, .data], laidTests := true, laidLooks := .later }
def BucketStartsCardSaid : Prop := Claim7.holds Tryd.pinned (.plain (OpenSpec.ofChange bucketStartsSpec)) bucketStartsCard

/-- THE TIED CARD OF 'tallymanlaw19.BucketChecks'. -/
def bucketChecksCard : Claim7 := { stood := { row := bucketChecksRow, standIns := [], harness := (true, "2db1c8232e3d49f4059ef8c3f8a0ff6eaf9a8fe2e9f463ad20e13c14f2aff1ae"), looks := true }, kinds := [], alts := [], laidByText := true, laidKinds := [.data, .data], laidTests := true, laidLooks := .later }
def BucketChecksCardSaid : Prop := Claim7.holds Tryd.pinned (.plain (OpenSpec.ofChange bucketChecksSpec)) bucketChecksCard

/-- THE TIED CARD OF 'tallymanlaw19.BucketNone'. -/
def bucketNoneCard : Claim7 := { stood := { row := bucketNoneRow, standIns := [], harness := (true, "2db1c8232e3d49f4059ef8c3f8a0ff6eaf9a8fe2e9f463ad20e13c14f2aff1ae"), looks := true }, kinds := [], alts := [], laidByText := true, laidKinds := [.data, .data], laidTests := true, laidLooks := .later }
def BucketNoneCardSaid : Prop := Claim7.holds Tryd.pinned (.plain (OpenSpec.ofChange bucketNoneSpec)) bucketNoneCard

/-- THE TIED CARD OF 'tallymanlaw19.BucketPlays'. -/
def bucketPlaysCard : Claim7 := { stood := { row := bucketPlaysRow, standIns := [], harness := (true, "2db1c8232e3d49f4059ef8c3f8a0ff6eaf9a8fe2e9f463ad20e13c14f2aff1ae"), looks := true }, kinds := [], alts := [], laidByText := true, laidKinds := [.data, .data], laidTests := true, laidLooks := .later }
def BucketPlaysCardSaid : Prop := Claim7.holds Tryd.pinned (.plain (OpenSpec.ofChange bucketPlaysSpec)) bucketPlaysCard

/-- THE SECOND FORM's CARD OF 'tallymanlaw15.TotalAdds'. -/
def totalAddsUptoCard : Claim7 := { stood := { row := totalAddsUptoRow, standIns := [], harness := (true, "2db1c8232e3d49f4059ef8c3f8a0ff6eaf9a8fe2e9f463ad20e13c14f2aff1ae"), looks := true }, kinds := [], alts := [], laidByText := true, laidKinds := [.data, .data], laidTests := true, laidLooks := .later }
def TotalAddsUptoCardSaid : Prop := Claim7.holds Tryd.pinned (.plain (OpenSpec.upto totalAddsSpec)) totalAddsUptoCard

/-- THE SECOND FORM's CARD OF 'tallymanlaw15.TotalUnshards'. -/
def totalUnshardsUptoCard : Claim7 := { stood := { row := totalUnshardsUptoRow, standIns := [], harness := (true, "2db1c8232e3d49f4059ef8c3f8a0ff6eaf9a8fe2e9f463ad20e13c14f2aff1ae"), looks := true }, kinds := [], alts := [], laidByText := true, laidKinds := [.data, .data], laidTests := true, laidLooks := .later }
def TotalUnshardsUptoCardSaid : Prop := Claim7.holds Tryd.pinned (.plain (OpenSpec.upto totalUnshardsSpec)) totalUnshardsUptoCard

/-- THE SECOND FORM's CARD OF 'tallymanlaw15.TotalBytes'. -/
def totalBytesUptoCard : Claim7 := { stood := { row := totalBytesUptoRow, standIns := [], harness := (true, "2db1c8232e3d49f4059ef8c3f8a0ff6eaf9a8fe2e9f463ad20e13c14f2aff1ae"), looks := true }, kinds := [], alts := [], laidByText := true, laidKinds := [.data, .data], laidTests := true, laidLooks := .later }
def TotalBytesUptoCardSaid : Prop := Claim7.holds Tryd.pinned (.plain (OpenSpec.upto totalBytesSpec)) totalBytesUptoCard

/-- THE SECOND FORM's CARD OF 'tallymanlaw15.TotalErrors'. -/
def totalErrorsUptoCard : Claim7 := { stood := { row := totalErrorsUptoRow, standIns := [], harness := (true, "2db1c8232e3d49f4059ef8c3f8a0ff6eaf9a8fe2e9f463ad20e13c14f2aff1ae"), looks := true }, kinds := [], alts := [], laidByText := true, laidKinds := [.data, .data], laidTests := true, laidLooks := .later }
def TotalErrorsUptoCardSaid : Prop := Claim7.holds Tryd.pinned (.plain (OpenSpec.upto totalErrorsSpec)) totalErrorsUptoCard

/-- THE SECOND FORM's CARD OF 'tallymanlaw19.BucketStarts'. -/
def bucketStartsUptoCard : Claim7 := { stood := { row := bucketStartsUptoRow, standIns := [], harness := (true, "2db1c8232e3d49f4059ef8c3f8a0ff6eaf9a8fe2e9f463ad20e13c14f2aff1ae"), looks := true }, kinds := [], alts := [], laidByText := true, laidKinds := [.data, .data], laidTests := true, laidLooks := .later }
def BucketStartsUptoCardSaid : Prop := Claim7.holds Tryd.pinned (.plain (OpenSpec.upto bucketStartsSpec)) bucketStartsUptoCard

/-- THE SECOND FORM's CARD OF 'tallymanlaw19.BucketChecks'. -/
def bucketChecksUptoCard : Claim7 := { stood := { row := bucketChecksUptoRow, standIns := [], harness := (true, "2db1c8232e3d49f4059ef8c3f8a0ff6eaf9a8fe2e9f463ad20e13c14f2aff1ae"), looks := true }, kinds := [], alts := [], laidByText := true, laidKinds := [.data, .data], laidTests := true, laidLooks := .later }
def BucketChecksUptoCardSaid : Prop := Claim7.holds Tryd.pinned (.plain (OpenSpec.upto bucketChecksSpec)) bucketChecksUptoCard

/-- THE SECOND FORM's CARD OF 'tallymanlaw19.BucketNone'. -/
def bucketNoneUptoCard : Claim7 := { stood := { row := bucketNoneUptoRow, standIns := [], harness := (true, "2db1c8232e3d49f4059ef8c3f8a0ff6eaf9a8fe2e9f463ad20e13c14f2aff1ae"), looks := true }, kinds := [], alts := [], laidByText := true, laidKinds := [.data, .data], laidTests := true, laidLooks := .later }
def BucketNoneUptoCardSaid : Prop := Claim7.holds Tryd.pinned (.plain (OpenSpec.upto bucketNoneSpec)) bucketNoneUptoCard

/-- THE SECOND FORM's CARD OF 'tallymanlaw19.BucketPlays'. -/
def bucketPlaysUptoCard : Claim7 := { stood := { row := bucketPlaysUptoRow, standIns := [], harness := (true, "2db1c8232e3d49f4059ef8c3f8a0ff6eaf9a8fe2e9f463ad20e13c14f2aff1ae"), looks := true }, kinds := [], alts := [], laidByText := true, laidKinds := [.data, .data], laidTests := true, laidLooks := .later }
def BucketPlaysUptoCardSaid : Prop := Claim7.holds Tryd.pinned (.plain (OpenSpec.upto bucketPlaysSpec)) bucketPlaysUptoCard
end Rows
end Go.Proofs.YtpojhomccmfffaaDoor
