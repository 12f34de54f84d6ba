/-
  DERIVED. GIVEN WITH THE SEED: THE CARDS: each row of YtlccmhlbkgojlaaDoorRows.lean that lists a variable, with what it lists TIED to the program's text (the seventh form; the later family's looks); each row that meets fmt, with fmt's text TOLD by the authors' own Lean function (tested against real Go, not proved from fmt's source: count such statements apart). THE CARD IS WHAT COUNTS. Prove the row's statement (the work); the ties are given (YtlccmhlbkgojlaaDoorTie.lean); close each card by the builder's one call (the guide's Derived/Test/ToyasCard.lean, 'card_holds'). Laid BY PROGRAM, IN A SANDBOX (cutbox-door.mjs). By AI agents, Wed Nov 11 2026. No macro, syntax, notation, axiom, sorry.
-/
import Derived.Test.YtlccmhlbkgojlaaDoorRows
import GoSem.ClaimSeven
namespace Go.Proofs.YtlccmhlbkgojlaaDoor
namespace Rows

/-- THE TIED CARD OF 'stilemanlaw04.AccTexts'. -/
def accTextsCard : Claim7 := { stood := { row := accTextsRow, standIns := [], harness := (true, "c119b76755577e58ca0bccf33b9c59eef35b5cdd2d4323009ac7b181a102cef5"), looks := true }, kinds := [], alts := [], laidByText := true, laidKinds := [.data, .data, .data, .data, .sentinel, .sentinel, .data, .pinned], laidTests := true, laidLooks := .later }
def AccTextsCardSaid : Prop := Claim7.holds Tryd.pinned (.plain (OpenSpec.ofChange accTextsSpec)) accTextsCard

/-- THE TIED CARD OF 'stilemanlaw04.AccReads'. -/
def accReadsCard : Claim7 := { stood := { row := accReadsRow, standIns := [], harness := (true, "c119b76755577e58ca0bccf33b9c59eef35b5cdd2d4323009ac7b181a102cef5"), looks := true }, kinds := [], alts := [], laidByText := true, laidKinds := [.data, .data, .data, .data, .sentinel, .sentinel, .data, .pinned], laidTests := true, laidLooks := .later }
def AccReadsCardSaid : Prop := Claim7.holds Tryd.pinned (.plain (OpenSpec.ofChange accReadsSpec)) accReadsCard

/-- THE TIED CARD OF 'stilemanlaw04.AccApart'. -/
def accApartCard : Claim7 := { stood := { row := accApartRow, standIns := [], harness := (true, "c119b76755577e58ca0bccf33b9c59eef35b5cdd2d4323009ac7b181a102cef5"), looks := true }, kinds := [], alts := [], laidByText := true, laidKinds := [.data, .data, .data, .data], laidTests := true, laidLooks := .later }
def AccApartCardSaid : Prop := Claim7.holds Tryd.pinned (.plain (OpenSpec.ofChange accApartSpec)) accApartCard

/-- THE TIED CARD OF 'stilemanlaw04.AccWrites'. -/
def accWritesCard : Claim7 := { stood := { row := accWritesRow, standIns := [], harness := (true, "c119b76755577e58ca0bccf33b9c59eef35b5cdd2d4323009ac7b181a102cef5"), looks := true }, kinds := [], alts := [], laidByText := true, laidKinds := [.data, .data, .data, .data], laidTests := true, laidLooks := .later }
def AccWritesCardSaid : Prop := Claim7.holds Tryd.pinned (.plain (OpenSpec.ofChange accWritesSpec)) accWritesCard

/-- THE SECOND FORM's CARD OF 'stilemanlaw04.AccTexts'. -/
def accTextsUptoCard : Claim7 := { stood := { row := accTextsUptoRow, standIns := [], harness := (true, "c119b76755577e58ca0bccf33b9c59eef35b5cdd2d4323009ac7b181a102cef5"), looks := true }, kinds := [], alts := [], laidByText := true, laidKinds := [.data, .data, .data, .data, .sentinel, .sentinel, .data, .pinned], laidTests := true, laidLooks := .later }
def AccTextsUptoCardSaid : Prop := Claim7.holds Tryd.pinned (.plain (OpenSpec.upto accTextsSpec)) accTextsUptoCard

/-- THE SECOND FORM's CARD OF 'stilemanlaw04.AccReads'. -/
def accReadsUptoCard : Claim7 := { stood := { row := accReadsUptoRow, standIns := [], harness := (true, "c119b76755577e58ca0bccf33b9c59eef35b5cdd2d4323009ac7b181a102cef5"), looks := true }, kinds := [], alts := [], laidByText := true, laidKinds := [.data, .data, .data, .data, .sentinel, .sentinel, .data, .pinned], laidTests := true, laidLooks := .later }
def AccReadsUptoCardSaid : Prop := Claim7.holds Tryd.pinned (.plain (OpenSpec.upto accReadsSpec)) accReadsUptoCard

/-- THE SECOND FORM's CARD OF 'stilemanlaw04.AccApart'. -/
def accApartUptoCard : Claim7 := { stood := { row := accApartUptoRow, standIns := [], harness := (true, "c119b76755577e58ca0bccf33b9c59eef35b5cdd2d4323009ac7b181a102cef5"), looks := true }, kinds := [], alts := [], laidByText := true, laidKinds := [.data, .data, .data, .data], laidTests := true, laidLooks := .later }
def AccApartUptoCardSaid : Prop := Claim7.holds Tryd.pinned (.plain (OpenSpec.upto accApartSpec)) accApartUptoCard

/-- THE SECOND FORM's CARD OF 'stilemanlaw04.AccWrites'. -/
def accWritesUptoCard : Claim7 := { stood := { row := accWritesUptoRow, standIns := [], harness := (true, "c119b76755577e58ca0bccf33b9c59eef35b5cdd2d4323009ac7b181a102cef5"), looks := true }, kinds := [], alts := [], laidByText := true, laidKinds := [.data, .data, .data, .data], laidTests := true, laidLooks := .later }
def AccWritesUptoCardSaid : Prop := Claim7.holds Tryd.pinned (.plain (OpenSpec.upto accWritesSpec)) accWritesUptoCard
end Rows
end Go.Proofs.YtlccmhlbkgojlaaDoor
