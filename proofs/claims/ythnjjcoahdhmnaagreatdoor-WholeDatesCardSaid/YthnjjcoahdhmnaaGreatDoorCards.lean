/-
  DERIVED. GIVEN WITH THE SEED: THE CARDS: each row of YthnjjcoahdhmnaaGreatDoorRows.lean that lists a variable, with what it lists TIED to the program's text (the seventh form; the later family's looks); each row that meets fmt, with fmt's text TOLD by the authors' own Lean function (tested against real Go, not proved from fmt's source: count such statements apart). THE CARD IS WHAT COUNTS. Prove the row's statement (the work); the ties are given (YthnjjcoahdhmnaaGreatDoorTie.lean); close each card by the builder's one call (the guide's Derived/Test/ToyasCard.lean, 'card_holds'). Laid BY PROGRAM, IN A SANDBOX (cutbox-door.mjs). By AI agents, Wed Nov 11 2026. No macro, syntax, notation, axiom, sorry.
-/
import Derived.Test.YthnjjcoahdhmnaaGreatDoorRows
import GoSem.ClaimSeven
namespace Go.Proofs.YthnjjcoahdhmnaaGreatDoor
namespace Rows

/-- THE TIED CARD OF 'almanackerlaw25.DayTells'. -/
def dayTellsCard : Claim7 := { stood := { row := dayTellsRow, standIns := [], harness := (true, "ae3fed130c102f78a6b8a4342c35305a21f37102f2537f090883dade14b07901"), looks := false }, kinds := [], alts := [], goes := true, laidByText := true, laidKinds := [.data, .data, .data, .data, .data], laidTests := true, laidLooks := .later }
def DayTellsCardSaid : Prop := Claim7.holds Tryz.pinned (.plain (OpenSpec.ofChange dayTellsSpec)) dayTellsCard

/-- THE TIED CARD OF 'almanackertop.WholeDates'. -/
def wholeDatesCard : Claim7 := { stood := { row := wholeDatesRow, standIns := [], harness := (true, "ae3fed130c102f78a6b8a4342c35305a21f37102f2537f090883dade14b07901"), looks := false }, kinds := [], alts := [], goes := true, laidByText := true, laidKinds := [.data, .data, .data, .data, .data, .data, .data, .data, .data], laidTests := true, laidLooks := .later }
def WholeDatesCardSaid : Prop := Claim7.holds Tryz.pinned (.plain (OpenSpec.ofChange wholeDatesSpec)) wholeDatesCard

/-- THE TIED CARD OF 'almanackertop.WholeTexts'. -/
def wholeTextsCard : Claim7 := { stood := { row := wholeTextsRow, standIns := [], harness := (true, "ae3fed130c102f78a6b8a4342c35305a21f37102f2537f090883dade14b07901"), looks := false }, kinds := [], alts := [], goes := true, laidByText := true, laidKinds := [.data, .data, .data, .data, .data, .data, .data, .data, .data, .data, .pinned], laidTests := true, laidLooks := .later }
def WholeTextsCardSaid : Prop := Claim7.holds Tryz.pinned (.plain (OpenSpec.ofChange wholeTextsSpec)) wholeTextsCard

/-- THE TIED CARD OF 'almanackertop.WholeAdds'. -/
def wholeAddsCard : Claim7 := { stood := { row := wholeAddsRow, standIns := [], harness := (true, "ae3fed130c102f78a6b8a4342c35305a21f37102f2537f090883dade14b07901"), looks := false }, kinds := [], alts := [], goes := true, laidByText := true, laidKinds := [.data, .data, .data, .data, .data], laidTests := true, laidLooks := .later }
def WholeAddsCardSaid : Prop := Claim7.holds Tryz.pinned (.plain (OpenSpec.ofChange wholeAddsSpec)) wholeAddsCard

/-- THE SECOND FORM's CARD OF 'almanackerlaw25.DayTells'. -/
def dayTellsUptoCard : Claim7 := { stood := { row := dayTellsUptoRow, standIns := [], harness := (true, "ae3fed130c102f78a6b8a4342c35305a21f37102f2537f090883dade14b07901"), looks := false }, kinds := [], alts := [], goes := true, laidByText := true, laidKinds := [.data, .data, .data, .data, .data], laidTests := true, laidLooks := .later }
def DayTellsUptoCardSaid : Prop := Claim7.holds Tryz.pinned (.plain (OpenSpec.upto dayTellsSpec)) dayTellsUptoCard

/-- THE SECOND FORM's CARD OF 'almanackertop.WholeDates'. -/
def wholeDatesUptoCard : Claim7 := { stood := { row := wholeDatesUptoRow, standIns := [], harness := (true, "ae3fed130c102f78a6b8a4342c35305a21f37102f2537f090883dade14b07901"), looks := false }, kinds := [], alts := [], goes := true, laidByText := true, laidKinds := [.data, .data, .data, .data, .data, .data, .data, .data, .data], laidTests := true, laidLooks := .later }
def WholeDatesUptoCardSaid : Prop := Claim7.holds Tryz.pinned (.plain (OpenSpec.upto wholeDatesSpec)) wholeDatesUptoCard

/-- THE SECOND FORM's CARD OF 'almanackertop.WholeTexts'. -/
def wholeTextsUptoCard : Claim7 := { stood := { row := wholeTextsUptoRow, standIns := [], harness := (true, "ae3fed130c102f78a6b8a4342c35305a21f37102f2537f090883dade14b07901"), looks := false }, kinds := [], alts := [], goes := true, laidByText := true, laidKinds := [.data, .data, .data, .data, .data, .data, .data, .data, .data, .data, .pinned], laidTests := true, laidLooks := .later }
def WholeTextsUptoCardSaid : Prop := Claim7.holds Tryz.pinned (.plain (OpenSpec.upto wholeTextsSpec)) wholeTextsUptoCard

/-- THE SECOND FORM's CARD OF 'almanackertop.WholeAdds'. -/
def wholeAddsUptoCard : Claim7 := { stood := { row := wholeAddsUptoRow, standIns := [], harness := (true, "ae3fed130c102f78a6b8a4342c35305a21f37102f2537f090883dade14b07901"), looks := false }, kinds := [], alts := [], goes := true, laidByText := true, laidKinds := [.data, .data, .data, .data, .data], laidTests := true, laidLooks := .later }
def WholeAddsUptoCardSaid : Prop := Claim7.holds Tryz.pinned (.plain (OpenSpec.upto wholeAddsSpec)) wholeAddsUptoCard
end Rows
end Go.Proofs.YthnjjcoahdhmnaaGreatDoor
