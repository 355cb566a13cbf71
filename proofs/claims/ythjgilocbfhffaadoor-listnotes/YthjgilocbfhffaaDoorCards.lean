/-
  DERIVED. GIVEN WITH THE SEED: THE CARDS: each row of YthjgilocbfhffaaDoorRows.lean that lists a variable, with what it lists TIED to the program's text (the seventh form; the later family's looks); each row that meets fmt, with fmt's text TOLD by the authors' own Lean function (tested against real Go, not proved from fmt's source: count such statements apart). THE CARD IS WHAT COUNTS. Prove the row's statement (the work); the ties are given (YthjgilocbfhffaaDoorTie.lean); close each card by the builder's one call (the guide's Derived/Test/ToyasCard.lean, 'card_holds'). Laid BY PROGRAM, IN A SANDBOX (cutbox-door.mjs). By AI agents, Wed Nov 11 2026. No macro, syntax, notation, axiom, sorry.
-/
import Derived.Test.YthjgilocbfhffaaDoorRows
import GoSem.ClaimSeven
namespace Go.Proofs.YthjgilocbfhffaaDoor
namespace Rows

/-- THE TIED CARD OF 'epactlaw11.ListChecks'. -/
def listChecksCard : Claim7 := { stood := { row := listChecksRow, standIns := [], harness := (true, "647d4ef9a6f130b788bdcf86edbba993fd75be9c38a2edf9680c8fe9ab75ed2b"), looks := false }, kinds := [], alts := [], laidByText := true, laidKinds := [.data, .data, .data], laidTests := true, laidLooks := .later }
def ListChecksCardSaid : Prop := Claim7.holds Tryd.pinned (.plain (OpenSpec.ofChange listChecksSpec)) listChecksCard

/-- THE TIED CARD OF 'epactlaw11.ListPrints'. -/
def listPrintsCard : Claim7 := { stood := { row := listPrintsRow, standIns := [], harness := (true, "647d4ef9a6f130b788bdcf86edbba993fd75be9c38a2edf9680c8fe9ab75ed2b"), looks := false }, kinds := [], alts := [], laidByText := true, laidKinds := [.data, .data, .data], laidTests := true, laidLooks := .later }
def ListPrintsCardSaid : Prop := Claim7.holds Tryd.pinned (.plain (OpenSpec.ofChange listPrintsSpec)) listPrintsCard

/-- THE TIED CARD OF 'epactlaw11.ListParses'. -/
def listParsesCard : Claim7 := { stood := { row := listParsesRow, standIns := [], harness := (true, "647d4ef9a6f130b788bdcf86edbba993fd75be9c38a2edf9680c8fe9ab75ed2b"), looks := false }, kinds := [], alts := [], laidByText := true, laidKinds := [.data, .data, .data], laidTests := true, laidLooks := .later }
def ListParsesCardSaid : Prop := Claim7.holds Tryd.pinned (.plain (OpenSpec.ofChange listParsesSpec)) listParsesCard

/-- THE TIED CARD OF 'epactlaw11.ListTurned'. -/
def listTurnedCard : Claim7 := { stood := { row := listTurnedRow, standIns := [], harness := (true, "647d4ef9a6f130b788bdcf86edbba993fd75be9c38a2edf9680c8fe9ab75ed2b"), looks := false }, kinds := [], alts := [], laidByText := true, laidKinds := [.data, .data, .data], laidTests := true, laidLooks := .later }
def ListTurnedCardSaid : Prop := Claim7.holds Tryd.pinned (.plain (OpenSpec.ofChange listTurnedSpec)) listTurnedCard

/-- THE TIED CARD OF 'epactlaw11.ListNotes'. -/
def listNotesCard : Claim7 := { stood := { row := listNotesRow, standIns := [], harness := (true, "647d4ef9a6f130b788bdcf86edbba993fd75be9c38a2edf9680c8fe9ab75ed2b"), looks := false }, kinds := [], alts := [], laidByText := true, laidKinds := [.data, .data, .data], laidTests := true, laidLooks := .later }
def ListNotesCardSaid : Prop := Claim7.holds Tryd.pinned (.plain (OpenSpec.ofChange listNotesSpec)) listNotesCard

/-- THE TIED CARD OF 'epactlaw11.ListTwice'. -/
def listTwiceCard : Claim7 := { stood := { row := listTwiceRow, standIns := [], harness := (true, "647d4ef9a6f130b788bdcf86edbba993fd75be9c38a2edf9680c8fe9ab75ed2b"), looks := false }, kinds := [], alts := [], laidByText := true, laidKinds := [.data, .data, .data], laidTests := true, laidLooks := .later }
def ListTwiceCardSaid : Prop := Claim7.holds Tryd.pinned (.plain (OpenSpec.ofChange listTwiceSpec)) listTwiceCard

/-- THE SECOND FORM's CARD OF 'epactlaw11.ListChecks'. -/
def listChecksUptoCard : Claim7 := { stood := { row := listChecksUptoRow, standIns := [], harness := (true, "647d4ef9a6f130b788bdcf86edbba993fd75be9c38a2edf9680c8fe9ab75ed2b"), looks := false }, kinds := [], alts := [], laidByText := true, laidKinds := [.data, .data, .data], laidTests := true, laidLooks := .later }
def ListChecksUptoCardSaid : Prop := Claim7.holds Tryd.pinned (.plain (OpenSpec.upto listChecksSpec)) listChecksUptoCard

/-- THE SECOND FORM's CARD OF 'epactlaw11.ListPrints'. -/
def listPrintsUptoCard : Claim7 := { stood := { row := listPrintsUptoRow, standIns := [], harness := (true, "647d4ef9a6f130b788bdcf86edbba993fd75be9c38a2edf9680c8fe9ab75ed2b"), looks := false }, kinds := [], alts := [], laidByText := true, laidKinds := [.data, .data, .data], laidTests := true, laidLooks := .later }
def ListPrintsUptoCardSaid : Prop := Claim7.holds Tryd.pinned (.plain (OpenSpec.upto listPrintsSpec)) listPrintsUptoCard

/-- THE SECOND FORM's CARD OF 'epactlaw11.ListParses'. -/
def listParsesUptoCard : Claim7 := { stood := { row := listParsesUptoRow, standIns := [], harness := (true, "647d4ef9a6f130b788bdcf86edbba993fd75be9c38a2edf9680c8fe9ab75ed2b"), looks := false }, kinds := [], alts := [], laidByText := true, laidKinds := [.data, .data, .data], laidTests := true, laidLooks := .later }
def ListParsesUptoCardSaid : Prop := Claim7.holds Tryd.pinned (.plain (OpenSpec.upto listParsesSpec)) listParsesUptoCard

/-- THE SECOND FORM's CARD OF 'epactlaw11.ListTurned'. -/
def listTurnedUptoCard : Claim7 := { stood := { row := listTurnedUptoRow, standIns := [], harness := (true, "647d4ef9a6f130b788bdcf86edbba993fd75be9c38a2edf9680c8fe9ab75ed2b"), looks := false }, kinds := [], alts := [], laidByText := true, laidKinds := [.data, .data, .data], laidTests := true, laidLooks := .later }
def ListTurnedUptoCardSaid : Prop := Claim7.holds Tryd.pinned (.plain (OpenSpec.upto listTurnedSpec)) listTurnedUptoCard

/-- THE SECOND FORM's CARD OF 'epactlaw11.ListNotes'. -/
def listNotesUptoCard : Claim7 := { stood := { row := listNotesUptoRow, standIns := [], harness := (true, "647d4ef9a6f130b788bdcf86edbba993fd75be9c38a2edf9680c8fe9ab75ed2b"), looks := false }, kinds := [], alts := [], laidByText := true, laidKinds := [.data, .data, .data], laidTests := true, laidLooks := .later }
def ListNotesUptoCardSaid : Prop := Claim7.holds Tryd.pinned (.plain (OpenSpec.upto listNotesSpec)) listNotesUptoCard

/-- THE SECOND FORM's CARD OF 'epactlaw11.ListTwice'. -/
def listTwiceUptoCard : Claim7 := { stood := { row := listTwiceUptoRow, standIns := [], harness := (true, "647d4ef9a6f130b788bdcf86edbba993fd75be9c38a2edf9680c8fe9ab75ed2b"), looks := false }, kinds := [], alts := [], laidByText := true, laidKinds := [.data, .data, .data], laidTests := true, laidLooks := .later }
def ListTwiceUptoCardSaid : Prop := Claim7.holds Tryd.pinned (.plain (OpenSpec.upto listTwiceSpec)) listTwiceUptoCard
end Rows
end Go.Proofs.YthjgilocbfhffaaDoor
