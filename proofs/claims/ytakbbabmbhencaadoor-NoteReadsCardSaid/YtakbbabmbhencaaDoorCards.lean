/-
  DERIVED. GIVEN WITH THE SEED: THE CARDS: each row of YtakbbabmbhencaaDoorRows.lean that lists a variable, with what it lists TIED to the program's text (the seventh form; the later family's looks); each row that meets fmt, with fmt's text TOLD by the authors' own Lean function (tested against real Go, not proved from fmt's source: count such statements apart). THE CARD IS WHAT COUNTS. Prove the row's statement (the work); the ties are given (YtakbbabmbhencaaDoorTie.lean); close each card by the builder's one call (the guide's Derived/Test/ToyasCard.lean, 'card_holds'). Laid BY PROGRAM, IN A SANDBOX (cutbox-door.mjs). By AI agents, Wed Nov 11 2026. No macro, syntax, notation, axiom, sorry.
-/
import Derived.Test.YtakbbabmbhencaaDoorRows
import GoSem.ClaimSeven
namespace Go.Proofs.YtakbbabmbhencaaDoor
namespace Rows

/-- THE TIED CARD OF 'stilemanlaw05.NoteTexts'. -/
def noteTextsCard : Claim7 := { stood := { row := noteTextsRow, standIns := [], harness := (true, "99c0ac2df0c0264e0005397a99c85c75894e295cea29a9d1eaca0371d7be31da"), looks := true }, kinds := [], alts := [], laidByText := true, laidKinds := [.data, .data, .data, .data, .sentinel, .sentinel, .pinned], laidTests := true, laidLooks := .later }
def NoteTextsCardSaid : Prop := Claim7.holds Tryd.pinned (.plain (OpenSpec.ofChange noteTextsSpec)) noteTextsCard

/-- THE TIED CARD OF 'stilemanlaw05.NoteReads'. -/
def noteReadsCard : Claim7 := { stood := { row := noteReadsRow, standIns := [], harness := (true, "99c0ac2df0c0264e0005397a99c85c75894e295cea29a9d1eaca0371d7be31da"), looks := true }, kinds := [], alts := [], laidByText := true, laidKinds := [.data, .data, .data, .data, .sentinel, .sentinel, .pinned], laidTests := true, laidLooks := .later }
def NoteReadsCardSaid : Prop := Claim7.holds Tryd.pinned (.plain (OpenSpec.ofChange noteReadsSpec)) noteReadsCard

/-- THE TIED CARD OF 'stilemanlaw05.NoteOf'. -/
def noteOfCard : Claim7 := { stood := { row := noteOfRow, standIns := [], harness := (true, "99c0ac2df0c0264e0005397a99c85c75894e295cea29a9d1eaca0371d7be31da"), looks := true }, kinds := [], alts := [], laidByText := true, laidKinds := [.data, .data, .data], laidTests := true, laidLooks := .later }
def NoteOfCardSaid : Prop := Claim7.holds Tryd.pinned (.plain (OpenSpec.ofChange noteOfSpec)) noteOfCard

/-- THE TIED CARD OF 'stilemanlaw05.NoteApart'. -/
def noteApartCard : Claim7 := { stood := { row := noteApartRow, standIns := [], harness := (true, "99c0ac2df0c0264e0005397a99c85c75894e295cea29a9d1eaca0371d7be31da"), looks := true }, kinds := [], alts := [], laidByText := true, laidKinds := [.data, .data, .data], laidTests := true, laidLooks := .later }
def NoteApartCardSaid : Prop := Claim7.holds Tryd.pinned (.plain (OpenSpec.ofChange noteApartSpec)) noteApartCard

/-- THE SECOND FORM's CARD OF 'stilemanlaw05.NoteTexts'. -/
def noteTextsUptoCard : Claim7 := { stood := { row := noteTextsUptoRow, standIns := [], harness := (true, "99c0ac2df0c0264e0005397a99c85c75894e295cea29a9d1eaca0371d7be31da"), looks := true }, kinds := [], alts := [], laidByText := true, laidKinds := [.data, .data, .data, .data, .sentinel, .sentinel, .pinned], laidTests := true, laidLooks := .later }
def NoteTextsUptoCardSaid : Prop := Claim7.holds Tryd.pinned (.plain (OpenSpec.upto noteTextsSpec)) noteTextsUptoCard

/-- THE SECOND FORM's CARD OF 'stilemanlaw05.NoteReads'. -/
def noteReadsUptoCard : Claim7 := { stood := { row := noteReadsUptoRow, standIns := [], harness := (true, "99c0ac2df0c0264e0005397a99c85c75894e295cea29a9d1eaca0371d7be31da"), looks := true }, kinds := [], alts := [], laidByText := true, laidKinds := [.data, .data, .data, .data, .sentinel, .sentinel, .pinned], laidTests := true, laidLooks := .later }
def NoteReadsUptoCardSaid : Prop := Claim7.holds Tryd.pinned (.plain (OpenSpec.upto noteReadsSpec)) noteReadsUptoCard

/-- THE SECOND FORM's CARD OF 'stilemanlaw05.NoteOf'. -/
def noteOfUptoCard : Claim7 := { stood := { row := noteOfUptoRow, standIns := [], harness := (true, "99c0ac2df0c0264e0005397a99c85c75894e295cea29a9d1eaca0371d7be31da"), looks := true }, kinds := [], alts := [], laidByText := true, laidKinds := [.data, .data, .data], laidTests := true, laidLooks := .later }
def NoteOfUptoCardSaid : Prop := Claim7.holds Tryd.pinned (.plain (OpenSpec.upto noteOfSpec)) noteOfUptoCard

/-- THE SECOND FORM's CARD OF 'stilemanlaw05.NoteApart'. -/
def noteApartUptoCard : Claim7 := { stood := { row := noteApartUptoRow, standIns := [], harness := (true, "99c0ac2df0c0264e0005397a99c85c75894e295cea29a9d1eaca0371d7be31da"), looks := true }, kinds := [], alts := [], laidByText := true, laidKinds := [.data, .data, .data], laidTests := true, laidLooks := .later }
def NoteApartUptoCardSaid : Prop := Claim7.holds Tryd.pinned (.plain (OpenSpec.upto noteApartSpec)) noteApartUptoCard
end Rows
end Go.Proofs.YtakbbabmbhencaaDoor
