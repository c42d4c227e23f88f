/-
  DERIVED. GIVEN WITH THE SEED: THE CARDS: each row of YtaaaalbgjpjgoaaGreatDoorRows.lean that lists a variable, with what it lists TIED to the program's text (the seventh form; the later family's looks); each row that meets fmt, with fmt's text TOLD by the authors' own Lean function (tested against real Go, not proved from fmt's source: count such statements apart). THE CARD IS WHAT COUNTS. Prove the row's statement (the work); the ties are given (YtaaaalbgjpjgoaaGreatDoorTie.lean); close each card by the builder's one call (the guide's Derived/Test/ToyasCard.lean, 'card_holds'). Laid BY PROGRAM, IN A SANDBOX (cutbox-door.mjs). By AI agents, Wed Nov 11 2026. No macro, syntax, notation, axiom, sorry.
-/
import Derived.Test.YtaaaalbgjpjgoaaGreatDoorRows
import GoSem.ClaimSeven
namespace Go.Proofs.YtaaaalbgjpjgoaaGreatDoor
namespace Rows

/-- THE TIED CARD OF 'almanackerlaw24.TorahTells'. -/
def torahTellsCard : Claim7 := { stood := { row := torahTellsRow, standIns := [], harness := (true, "7acc03ad75762e7a5364e8e12d4ba73ea44d0ed81274ef635dc7467983df3dd8"), looks := false }, kinds := [], alts := [], goes := true, laidByText := true, laidKinds := [.data, .data, .data, .data, .data], laidTests := true, laidLooks := .later }
def TorahTellsCardSaid : Prop := Claim7.holds Tryz.pinned (.plain (OpenSpec.ofChange torahTellsSpec)) torahTellsCard

/-- THE TIED CARD OF 'almanackerlaw24.TorahOnce'. -/
def torahOnceCard : Claim7 := { stood := { row := torahOnceRow, standIns := [], harness := (true, "7acc03ad75762e7a5364e8e12d4ba73ea44d0ed81274ef635dc7467983df3dd8"), looks := false }, kinds := [], alts := [], goes := true, laidByText := true, laidKinds := [.data, .data, .data, .data, .data], laidTests := true, laidLooks := .later }
def TorahOnceCardSaid : Prop := Claim7.holds Tryz.pinned (.plain (OpenSpec.ofChange torahOnceSpec)) torahOnceCard

/-- THE TIED CARD OF 'almanackertop.WholeYears'. -/
def wholeYearsCard : Claim7 := { stood := { row := wholeYearsRow, standIns := [], harness := (true, "7acc03ad75762e7a5364e8e12d4ba73ea44d0ed81274ef635dc7467983df3dd8"), looks := false }, kinds := [], alts := [], goes := true, laidByText := true, laidKinds := [.data, .data, .data, .data, .data], laidTests := true, laidLooks := .later }
def WholeYearsCardSaid : Prop := Claim7.holds Tryz.pinned (.plain (OpenSpec.ofChange wholeYearsSpec)) wholeYearsCard

/-- THE TIED CARD OF 'almanackertop.WholeTypes'. -/
def wholeTypesCard : Claim7 := { stood := { row := wholeTypesRow, standIns := [], harness := (true, "7acc03ad75762e7a5364e8e12d4ba73ea44d0ed81274ef635dc7467983df3dd8"), looks := false }, kinds := [], alts := [], goes := true, laidByText := true, laidKinds := [.data, .data, .data, .data, .data], laidTests := true, laidLooks := .later }
def WholeTypesCardSaid : Prop := Claim7.holds Tryz.pinned (.plain (OpenSpec.ofChange wholeTypesSpec)) wholeTypesCard

/-- THE TIED CARD OF 'almanackertop.WholeDays'. -/
def wholeDaysCard : Claim7 := { stood := { row := wholeDaysRow, standIns := [], harness := (true, "7acc03ad75762e7a5364e8e12d4ba73ea44d0ed81274ef635dc7467983df3dd8"), looks := false }, kinds := [], alts := [], goes := true, laidByText := true, laidKinds := [.data, .data, .data, .data, .data], laidTests := true, laidLooks := .later }
def WholeDaysCardSaid : Prop := Claim7.holds Tryz.pinned (.plain (OpenSpec.ofChange wholeDaysSpec)) wholeDaysCard

/-- THE TIED CARD OF 'almanackertop.WholeDates'. -/
def wholeDatesCard : Claim7 := { stood := { row := wholeDatesRow, standIns := [], harness := (true, "7acc03ad75762e7a5364e8e12d4ba73ea44d0ed81274ef635dc7467983df3dd8"), looks := false }, kinds := [], alts := [], goes := true, laidByText := true, laidKinds := [.data, .data, .data, .data, .data, .data, .data, .data, .data], laidTests := true, laidLooks := .later }
def WholeDatesCardSaid : Prop := Claim7.holds Tryz.pinned (.plain (OpenSpec.ofChange wholeDatesSpec)) wholeDatesCard

/-- THE TIED CARD OF 'almanackertop.WholeTexts'. -/
def wholeTextsCard : Claim7 := { stood := { row := wholeTextsRow, standIns := [], harness := (true, "7acc03ad75762e7a5364e8e12d4ba73ea44d0ed81274ef635dc7467983df3dd8"), looks := false }, kinds := [], alts := [], goes := true, laidByText := true, laidKinds := [.data, .data, .data, .data, .data, .data, .data, .data, .data, .data, .pinned], laidTests := true, laidLooks := .later }
def WholeTextsCardSaid : Prop := Claim7.holds Tryz.pinned (.plain (OpenSpec.ofChange wholeTextsSpec)) wholeTextsCard

/-- THE TIED CARD OF 'almanackertop.WholeAdds'. -/
def wholeAddsCard : Claim7 := { stood := { row := wholeAddsRow, standIns := [], harness := (true, "7acc03ad75762e7a5364e8e12d4ba73ea44d0ed81274ef635dc7467983df3dd8"), looks := false }, kinds := [], alts := [], goes := true, laidByText := true, laidKinds := [.data, .data, .data, .data, .data], laidTests := true, laidLooks := .later }
def WholeAddsCardSaid : Prop := Claim7.holds Tryz.pinned (.plain (OpenSpec.ofChange wholeAddsSpec)) wholeAddsCard

/-- THE TIED CARD OF 'almanackertop.WholeUntil'. -/
def wholeUntilCard : Claim7 := { stood := { row := wholeUntilRow, standIns := [], harness := (true, "7acc03ad75762e7a5364e8e12d4ba73ea44d0ed81274ef635dc7467983df3dd8"), looks := false }, kinds := [], alts := [], goes := true, laidByText := true, laidKinds := [.data, .data, .data, .data, .data], laidTests := true, laidLooks := .later }
def WholeUntilCardSaid : Prop := Claim7.holds Tryz.pinned (.plain (OpenSpec.ofChange wholeUntilSpec)) wholeUntilCard

/-- THE TIED CARD OF 'almanackertop.WholeAnniversaries'. -/
def wholeAnniversariesCard : Claim7 := { stood := { row := wholeAnniversariesRow, standIns := [], harness := (true, "7acc03ad75762e7a5364e8e12d4ba73ea44d0ed81274ef635dc7467983df3dd8"), looks := false }, kinds := [], alts := [], goes := true, laidByText := true, laidKinds := [.data, .data, .data, .data, .data], laidTests := true, laidLooks := .later }
def WholeAnniversariesCardSaid : Prop := Claim7.holds Tryz.pinned (.plain (OpenSpec.ofChange wholeAnniversariesSpec)) wholeAnniversariesCard

/-- THE TIED CARD OF 'almanackertop.WholeNineteen'. -/
def wholeNineteenCard : Claim7 := { stood := { row := wholeNineteenRow, standIns := [], harness := (true, "7acc03ad75762e7a5364e8e12d4ba73ea44d0ed81274ef635dc7467983df3dd8"), looks := false }, kinds := [], alts := [], goes := true, laidByText := true, laidKinds := [.data, .data, .data, .data, .data], laidTests := true, laidLooks := .later }
def WholeNineteenCardSaid : Prop := Claim7.holds Tryz.pinned (.plain (OpenSpec.ofChange wholeNineteenSpec)) wholeNineteenCard

/-- THE SECOND FORM's CARD OF 'almanackerlaw24.TorahTells'. -/
def torahTellsUptoCard : Claim7 := { stood := { row := torahTellsUptoRow, standIns := [], harness := (true, "7acc03ad75762e7a5364e8e12d4ba73ea44d0ed81274ef635dc7467983df3dd8"), looks := false }, kinds := [], alts := [], goes := true, laidByText := true, laidKinds := [.data, .data, .data, .data, .data], laidTests := true, laidLooks := .later }
def TorahTellsUptoCardSaid : Prop := Claim7.holds Tryz.pinned (.plain (OpenSpec.upto torahTellsSpec)) torahTellsUptoCard

/-- THE SECOND FORM's CARD OF 'almanackerlaw24.TorahOnce'. -/
def torahOnceUptoCard : Claim7 := { stood := { row := torahOnceUptoRow, standIns := [], harness := (true, "7acc03ad75762e7a5364e8e12d4ba73ea44d0ed81274ef635dc7467983df3dd8"), looks := false }, kinds := [], alts := [], goes := true, laidByText := true, laidKinds := [.data, .data, .data, .data, .data], laidTests := true, laidLooks := .later }
def TorahOnceUptoCardSaid : Prop := Claim7.holds Tryz.pinned (.plain (OpenSpec.upto torahOnceSpec)) torahOnceUptoCard

/-- THE SECOND FORM's CARD OF 'almanackertop.WholeYears'. -/
def wholeYearsUptoCard : Claim7 := { stood := { row := wholeYearsUptoRow, standIns := [], harness := (true, "7acc03ad75762e7a5364e8e12d4ba73ea44d0ed81274ef635dc7467983df3dd8"), looks := false }, kinds := [], alts := [], goes := true, laidByText := true, laidKinds := [.data, .data, .data, .data, .data], laidTests := true, laidLooks := .later }
def WholeYearsUptoCardSaid : Prop := Claim7.holds Tryz.pinned (.plain (OpenSpec.upto wholeYearsSpec)) wholeYearsUptoCard

/-- THE SECOND FORM's CARD OF 'almanackertop.WholeTypes'. -/
def wholeTypesUptoCard : Claim7 := { stood := { row := wholeTypesUptoRow, standIns := [], harness := (true, "7acc03ad75762e7a5364e8e12d4ba73ea44d0ed81274ef635dc7467983df3dd8"), looks := false }, kinds := [], alts := [], goes := true, laidByText := true, laidKinds := [.data, .data, .data, .data, .data], laidTests := true, laidLooks := .later }
def WholeTypesUptoCardSaid : Prop := Claim7.holds Tryz.pinned (.plain (OpenSpec.upto wholeTypesSpec)) wholeTypesUptoCard

/-- THE SECOND FORM's CARD OF 'almanackertop.WholeDays'. -/
def wholeDaysUptoCard : Claim7 := { stood := { row := wholeDaysUptoRow, standIns := [], harness := (true, "7acc03ad75762e7a5364e8e12d4ba73ea44d0ed81274ef635dc7467983df3dd8"), looks := false }, kinds := [], alts := [], goes := true, laidByText := true, laidKinds := [.data, .data, .data, .data, .data], laidTests := true, laidLooks := .later }
def WholeDaysUptoCardSaid : Prop := Claim7.holds Tryz.pinned (.plain (OpenSpec.upto wholeDaysSpec)) wholeDaysUptoCard

/-- THE SECOND FORM's CARD OF 'almanackertop.WholeDates'. -/
def wholeDatesUptoCard : Claim7 := { stood := { row := wholeDatesUptoRow, standIns := [], harness := (true, "7acc03ad75762e7a5364e8e12d4ba73ea44d0ed81274ef635dc7467983df3dd8"), looks := false }, kinds := [], alts := [], goes := true, laidByText := true, laidKinds := [.data, .data, .data, .data, .data, .data, .data, .data, .data], laidTests := true, laidLooks := .later }
def WholeDatesUptoCardSaid : Prop := Claim7.holds Tryz.pinned (.plain (OpenSpec.upto wholeDatesSpec)) wholeDatesUptoCard

/-- THE SECOND FORM's CARD OF 'almanackertop.WholeTexts'. -/
def wholeTextsUptoCard : Claim7 := { stood := { row := wholeTextsUptoRow, standIns := [], harness := (true, "7acc03ad75762e7a5364e8e12d4ba73ea44d0ed81274ef635dc7467983df3dd8"), looks := false }, kinds := [], alts := [], goes := true, laidByText := true, laidKinds := [.data, .data, .data, .data, .data, .data, .data, .data, .data, .data, .pinned], laidTests := true, laidLooks := .later }
def WholeTextsUptoCardSaid : Prop := Claim7.holds Tryz.pinned (.plain (OpenSpec.upto wholeTextsSpec)) wholeTextsUptoCard

/-- THE SECOND FORM's CARD OF 'almanackertop.WholeAdds'. -/
def wholeAddsUptoCard : Claim7 := { stood := { row := wholeAddsUptoRow, standIns := [], harness := (true, "7acc03ad75762e7a5364e8e12d4ba73ea44d0ed81274ef635dc7467983df3dd8"), looks := false }, kinds := [], alts := [], goes := true, laidByText := true, laidKinds := [.data, .data, .data, .data, .data], laidTests := true, laidLooks := .later }
def WholeAddsUptoCardSaid : Prop := Claim7.holds Tryz.pinned (.plain (OpenSpec.upto wholeAddsSpec)) wholeAddsUptoCard

/-- THE SECOND FORM's CARD OF 'almanackertop.WholeUntil'. -/
def wholeUntilUptoCard : Claim7 := { stood := { row := wholeUntilUptoRow, standIns := [], harness := (true, "7acc03ad75762e7a5364e8e12d4ba73ea44d0ed81274ef635dc7467983df3dd8"), looks := false }, kinds := [], alts := [], goes := true, laidByText := true, laidKinds := [.data, .data, .data, .data, .data], laidTests := true, laidLooks := .later }
def WholeUntilUptoCardSaid : Prop := Claim7.holds Tryz.pinned (.plain (OpenSpec.upto wholeUntilSpec)) wholeUntilUptoCard

/-- THE SECOND FORM's CARD OF 'almanackertop.WholeAnniversaries'. -/
def wholeAnniversariesUptoCard : Claim7 := { stood := { row := wholeAnniversariesUptoRow, standIns := [], harness := (true, "7acc03ad75762e7a5364e8e12d4ba73ea44d0ed81274ef635dc7467983df3dd8"), looks := false }, kinds := [], alts := [], goes := true, laidByText := true, laidKinds := [.data, .data, .data, .data, .data], laidTests := true, laidLooks := .later }
def WholeAnniversariesUptoCardSaid : Prop := Claim7.holds Tryz.pinned (.plain (OpenSpec.upto wholeAnniversariesSpec)) wholeAnniversariesUptoCard

/-- THE SECOND FORM's CARD OF 'almanackertop.WholeNineteen'. -/
def wholeNineteenUptoCard : Claim7 := { stood := { row := wholeNineteenUptoRow, standIns := [], harness := (true, "7acc03ad75762e7a5364e8e12d4ba73ea44d0ed81274ef635dc7467983df3dd8"), looks := false }, kinds := [], alts := [], goes := true, laidByText := true, laidKinds := [.data, .data, .data, .data, .data], laidTests := true, laidLooks := .later }
def WholeNineteenUptoCardSaid : Prop := Claim7.holds Tryz.pinned (.plain (OpenSpec.upto wholeNineteenSpec)) wholeNineteenUptoCard
end Rows
end Go.Proofs.YtaaaalbgjpjgoaaGreatDoor
