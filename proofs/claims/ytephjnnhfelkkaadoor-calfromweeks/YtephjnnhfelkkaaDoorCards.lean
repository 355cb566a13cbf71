/-
  DERIVED. GIVEN WITH THE SEED: THE CARDS: each row of YtephjnnhfelkkaaDoorRows.lean that lists a variable, with what it lists TIED to the program's text (the seventh form; the later family's looks); each row that meets fmt, with fmt's text TOLD by the authors' own Lean function (tested against real Go, not proved from fmt's source: count such statements apart). THE CARD IS WHAT COUNTS. Prove the row's statement (the work); the ties are given (YtephjnnhfelkkaaDoorTie.lean); close each card by the builder's one call (the guide's Derived/Test/ToyasCard.lean, 'card_holds'). Laid BY PROGRAM, IN A SANDBOX (cutbox-door.mjs). By AI agents, Wed Nov 11 2026. No macro, syntax, notation, axiom, sorry.
-/
import Derived.Test.YtephjnnhfelkkaaDoorRows
import GoSem.ClaimSeven
namespace Go.Proofs.YtephjnnhfelkkaaDoor
namespace Rows

/-- THE TIED CARD OF 'epactlaw08.CalWeekdays'. -/
def calWeekdaysCard : Claim7 := { stood := { row := calWeekdaysRow, standIns := [], harness := (true, "ba391669381c84b06e7bc611d6948fb77a3493cf0f8ac1723c535faa63783432"), looks := false }, kinds := [], alts := [], laidByText := true, laidKinds := [.data], laidTests := true, laidLooks := .later }
def CalWeekdaysCardSaid : Prop := Claim7.holds Tryd.pinned (.plain (OpenSpec.ofChange calWeekdaysSpec)) calWeekdaysCard

/-- THE TIED CARD OF 'epactlaw08.CalYears'. -/
def calYearsCard : Claim7 := { stood := { row := calYearsRow, standIns := [], harness := (true, "ba391669381c84b06e7bc611d6948fb77a3493cf0f8ac1723c535faa63783432"), looks := false }, kinds := [], alts := [], laidByText := true, laidKinds := [.data], laidTests := true, laidLooks := .later }
def CalYearsCardSaid : Prop := Claim7.holds Tryd.pinned (.plain (OpenSpec.ofChange calYearsSpec)) calYearsCard

/-- THE TIED CARD OF 'epactlaw08.CalFromYears'. -/
def calFromYearsCard : Claim7 := { stood := { row := calFromYearsRow, standIns := [], harness := (true, "ba391669381c84b06e7bc611d6948fb77a3493cf0f8ac1723c535faa63783432"), looks := false }, kinds := [], alts := [], laidByText := true, laidKinds := [.data], laidTests := true, laidLooks := .later }
def CalFromYearsCardSaid : Prop := Claim7.holds Tryd.pinned (.plain (OpenSpec.ofChange calFromYearsSpec)) calFromYearsCard

/-- THE TIED CARD OF 'epactlaw08.CalWeeks'. -/
def calWeeksCard : Claim7 := { stood := { row := calWeeksRow, standIns := [], harness := (true, "ba391669381c84b06e7bc611d6948fb77a3493cf0f8ac1723c535faa63783432"), looks := false }, kinds := [], alts := [], laidByText := true, laidKinds := [.data], laidTests := true, laidLooks := .later }
def CalWeeksCardSaid : Prop := Claim7.holds Tryd.pinned (.plain (OpenSpec.ofChange calWeeksSpec)) calWeeksCard

/-- THE TIED CARD OF 'epactlaw08.CalFromWeeks'. -/
def calFromWeeksCard : Claim7 := { stood := { row := calFromWeeksRow, standIns := [], harness := (true, "ba391669381c84b06e7bc611d6948fb77a3493cf0f8ac1723c535faa63783432"), looks := false }, kinds := [], alts := [], laidByText := true, laidKinds := [.data], laidTests := true, laidLooks := .later }
def CalFromWeeksCardSaid : Prop := Claim7.holds Tryd.pinned (.plain (OpenSpec.ofChange calFromWeeksSpec)) calFromWeeksCard

/-- THE SECOND FORM's CARD OF 'epactlaw08.CalWeekdays'. -/
def calWeekdaysUptoCard : Claim7 := { stood := { row := calWeekdaysUptoRow, standIns := [], harness := (true, "ba391669381c84b06e7bc611d6948fb77a3493cf0f8ac1723c535faa63783432"), looks := false }, kinds := [], alts := [], laidByText := true, laidKinds := [.data], laidTests := true, laidLooks := .later }
def CalWeekdaysUptoCardSaid : Prop := Claim7.holds Tryd.pinned (.plain (OpenSpec.upto calWeekdaysSpec)) calWeekdaysUptoCard

/-- THE SECOND FORM's CARD OF 'epactlaw08.CalYears'. -/
def calYearsUptoCard : Claim7 := { stood := { row := calYearsUptoRow, standIns := [], harness := (true, "ba391669381c84b06e7bc611d6948fb77a3493cf0f8ac1723c535faa63783432"), looks := false }, kinds := [], alts := [], laidByText := true, laidKinds := [.data], laidTests := true, laidLooks := .later }
def CalYearsUptoCardSaid : Prop := Claim7.holds Tryd.pinned (.plain (OpenSpec.upto calYearsSpec)) calYearsUptoCard

/-- THE SECOND FORM's CARD OF 'epactlaw08.CalFromYears'. -/
def calFromYearsUptoCard : Claim7 := { stood := { row := calFromYearsUptoRow, standIns := [], harness := (true, "ba391669381c84b06e7bc611d6948fb77a3493cf0f8ac1723c535faa63783432"), looks := false }, kinds := [], alts := [], laidByText := true, laidKinds := [.data], laidTests := true, laidLooks := .later }
def CalFromYearsUptoCardSaid : Prop := Claim7.holds Tryd.pinned (.plain (OpenSpec.upto calFromYearsSpec)) calFromYearsUptoCard

/-- THE SECOND FORM's CARD OF 'epactlaw08.CalWeeks'. -/
def calWeeksUptoCard : Claim7 := { stood := { row := calWeeksUptoRow, standIns := [], harness := (true, "ba391669381c84b06e7bc611d6948fb77a3493cf0f8ac1723c535faa63783432"), looks := false }, kinds := [], alts := [], laidByText := true, laidKinds := [.data], laidTests := true, laidLooks := .later }
def CalWeeksUptoCardSaid : Prop := Claim7.holds Tryd.pinned (.plain (OpenSpec.upto calWeeksSpec)) calWeeksUptoCard

/-- THE SECOND FORM's CARD OF 'epactlaw08.CalFromWeeks'. -/
def calFromWeeksUptoCard : Claim7 := { stood := { row := calFromWeeksUptoRow, standIns := [], harness := (true, "ba391669381c84b06e7bc611d6948fb77a3493cf0f8ac1723c535faa63783432"), looks := false }, kinds := [], alts := [], laidByText := true, laidKinds := [.data], laidTests := true, laidLooks := .later }
def CalFromWeeksUptoCardSaid : Prop := Claim7.holds Tryd.pinned (.plain (OpenSpec.upto calFromWeeksSpec)) calFromWeeksUptoCard
end Rows
end Go.Proofs.YtephjnnhfelkkaaDoor
