/-
  DERIVED. GIVEN WITH THE SEED: THE CARDS: each row of YtncckpfenjokmaaDoorRows.lean that lists a variable, with what it lists TIED to the program's text (the seventh form; the later family's looks); each row that meets fmt, with fmt's text TOLD by the authors' own Lean function (tested against real Go, not proved from fmt's source: count such statements apart). THE CARD IS WHAT COUNTS. Prove the row's statement (the work); the ties are given (YtncckpfenjokmaaDoorTie.lean); close each card by the builder's one call (the guide's Derived/Test/ToyasCard.lean, 'card_holds'). Laid BY PROGRAM, IN A SANDBOX (cutbox-door.mjs). By AI agents, Wed Nov 11 2026. No macro, syntax, notation, axiom, sorry.
-/
import Derived.Test.YtncckpfenjokmaaDoorRows
import GoSem.ClaimSeven
namespace Go.Proofs.YtncckpfenjokmaaDoor
namespace Rows

/-- THE TIED CARD OF 'almanackerlaw11.GregTells'. -/
def gregTellsCard : Claim7 := { stood := { row := gregTellsRow, standIns := [], harness := (true, "f242ec3cb0809c90fd98f93d50e08620d364886b6cf579b560e821398921159b"), looks := false }, kinds := [], alts := [], laidByText := true, laidKinds := [.data], laidTests := true, laidLooks := .later }
def GregTellsCardSaid : Prop := Claim7.holds Tryd.pinned (.plain (OpenSpec.ofChange gregTellsSpec)) gregTellsCard

/-- THE TIED CARD OF 'almanackerlaw11.GregBack'. -/
def gregBackCard : Claim7 := { stood := { row := gregBackRow, standIns := [], harness := (true, "f242ec3cb0809c90fd98f93d50e08620d364886b6cf579b560e821398921159b"), looks := false }, kinds := [], alts := [], laidByText := true, laidKinds := [.data], laidTests := true, laidLooks := .later }
def GregBackCardSaid : Prop := Claim7.holds Tryd.pinned (.plain (OpenSpec.ofChange gregBackSpec)) gregBackCard

/-- THE TIED CARD OF 'almanackerlaw11.GregNext'. -/
def gregNextCard : Claim7 := { stood := { row := gregNextRow, standIns := [], harness := (true, "f242ec3cb0809c90fd98f93d50e08620d364886b6cf579b560e821398921159b"), looks := false }, kinds := [], alts := [], laidByText := true, laidKinds := [.data], laidTests := true, laidLooks := .later }
def GregNextCardSaid : Prop := Claim7.holds Tryd.pinned (.plain (OpenSpec.ofChange gregNextSpec)) gregNextCard

/-- THE TIED CARD OF 'almanackerlaw11.GregRound'. -/
def gregRoundCard : Claim7 := { stood := { row := gregRoundRow, standIns := [], harness := (true, "f242ec3cb0809c90fd98f93d50e08620d364886b6cf579b560e821398921159b"), looks := false }, kinds := [], alts := [], laidByText := true, laidKinds := [.data], laidTests := true, laidLooks := .later }
def GregRoundCardSaid : Prop := Claim7.holds Tryd.pinned (.plain (OpenSpec.ofChange gregRoundSpec)) gregRoundCard

/-- THE TIED CARD OF 'almanackerlaw13.TextOrder'. -/
def textOrderCard : Claim7 := { stood := { row := textOrderRow, standIns := [], harness := (true, "f242ec3cb0809c90fd98f93d50e08620d364886b6cf579b560e821398921159b"), looks := false }, kinds := [], alts := [], laidByText := true, laidKinds := [.data, .data, .data, .data, .data, .pinned], laidTests := true, laidLooks := .later }
def TextOrderCardSaid : Prop := Claim7.holds Tryd.pinned (.plain (OpenSpec.ofChange textOrderSpec)) textOrderCard

/-- THE TIED CARD OF 'almanackerlaw14.NameBack'. -/
def nameBackCard : Claim7 := { stood := { row := nameBackRow, standIns := [], harness := (true, "f242ec3cb0809c90fd98f93d50e08620d364886b6cf579b560e821398921159b"), looks := false }, kinds := [], alts := [], laidByText := true, laidKinds := [.data, .data, .data, .data, .data, .data], laidTests := true, laidLooks := .later }
def NameBackCardSaid : Prop := Claim7.holds Tryd.pinned (.plain (OpenSpec.ofChange nameBackSpec)) nameBackCard

/-- THE TIED CARD OF 'almanackerlaw14.NameMonths'. -/
def nameMonthsCard : Claim7 := { stood := { row := nameMonthsRow, standIns := [], harness := (true, "f242ec3cb0809c90fd98f93d50e08620d364886b6cf579b560e821398921159b"), looks := false }, kinds := [], alts := [], laidByText := true, laidKinds := [.data, .data, .data, .data, .data, .data], laidTests := true, laidLooks := .later }
def NameMonthsCardSaid : Prop := Claim7.holds Tryd.pinned (.plain (OpenSpec.ofChange nameMonthsSpec)) nameMonthsCard

/-- THE TIED CARD OF 'almanackerlaw15.ShiftTells'. -/
def shiftTellsCard : Claim7 := { stood := { row := shiftTellsRow, standIns := [], harness := (true, "f242ec3cb0809c90fd98f93d50e08620d364886b6cf579b560e821398921159b"), looks := false }, kinds := [], alts := [], laidByText := true, laidKinds := [.data, .data], laidTests := true, laidLooks := .later }
def ShiftTellsCardSaid : Prop := Claim7.holds Tryd.pinned (.plain (OpenSpec.ofChange shiftTellsSpec)) shiftTellsCard

/-- THE TIED CARD OF 'almanackerlaw15.ShiftBack'. -/
def shiftBackCard : Claim7 := { stood := { row := shiftBackRow, standIns := [], harness := (true, "f242ec3cb0809c90fd98f93d50e08620d364886b6cf579b560e821398921159b"), looks := false }, kinds := [], alts := [], laidByText := true, laidKinds := [.data, .data], laidTests := true, laidLooks := .later }
def ShiftBackCardSaid : Prop := Claim7.holds Tryd.pinned (.plain (OpenSpec.ofChange shiftBackSpec)) shiftBackCard

/-- THE TIED CARD OF 'almanackerlaw15.ShiftOne'. -/
def shiftOneCard : Claim7 := { stood := { row := shiftOneRow, standIns := [], harness := (true, "f242ec3cb0809c90fd98f93d50e08620d364886b6cf579b560e821398921159b"), looks := false }, kinds := [], alts := [], laidByText := true, laidKinds := [.data, .data], laidTests := true, laidLooks := .later }
def ShiftOneCardSaid : Prop := Claim7.holds Tryd.pinned (.plain (OpenSpec.ofChange shiftOneSpec)) shiftOneCard

/-- THE TIED CARD OF 'almanackerlaw16.AddDays'. -/
def addDaysCard : Claim7 := { stood := { row := addDaysRow, standIns := [], harness := (true, "f242ec3cb0809c90fd98f93d50e08620d364886b6cf579b560e821398921159b"), looks := false }, kinds := [], alts := [], laidByText := true, laidKinds := [.data, .data], laidTests := true, laidLooks := .later }
def AddDaysCardSaid : Prop := Claim7.holds Tryd.pinned (.plain (OpenSpec.ofChange addDaysSpec)) addDaysCard

/-- THE TIED CARD OF 'almanackerlaw16.AddModes'. -/
def addModesCard : Claim7 := { stood := { row := addModesRow, standIns := [], harness := (true, "f242ec3cb0809c90fd98f93d50e08620d364886b6cf579b560e821398921159b"), looks := false }, kinds := [], alts := [], laidByText := true, laidKinds := [.data, .data], laidTests := true, laidLooks := .later }
def AddModesCardSaid : Prop := Claim7.holds Tryd.pinned (.plain (OpenSpec.ofChange addModesSpec)) addModesCard

/-- THE TIED CARD OF 'almanackerlaw16.AddRises'. -/
def addRisesCard : Claim7 := { stood := { row := addRisesRow, standIns := [], harness := (true, "f242ec3cb0809c90fd98f93d50e08620d364886b6cf579b560e821398921159b"), looks := false }, kinds := [], alts := [], laidByText := true, laidKinds := [.data, .data], laidTests := true, laidLooks := .later }
def AddRisesCardSaid : Prop := Claim7.holds Tryd.pinned (.plain (OpenSpec.ofChange addRisesSpec)) addRisesCard

/-- THE TIED CARD OF 'almanackerlaw18.AnnivTells'. -/
def annivTellsCard : Claim7 := { stood := { row := annivTellsRow, standIns := [], harness := (true, "f242ec3cb0809c90fd98f93d50e08620d364886b6cf579b560e821398921159b"), looks := false }, kinds := [], alts := [], laidByText := true, laidKinds := [.data, .data], laidTests := true, laidLooks := .later }
def AnnivTellsCardSaid : Prop := Claim7.holds Tryd.pinned (.plain (OpenSpec.ofChange annivTellsSpec)) annivTellsCard

/-- THE TIED CARD OF 'almanackerlaw18.AnnivSame'. -/
def annivSameCard : Claim7 := { stood := { row := annivSameRow, standIns := [], harness := (true, "f242ec3cb0809c90fd98f93d50e08620d364886b6cf579b560e821398921159b"), looks := false }, kinds := [], alts := [], laidByText := true, laidKinds := [.data, .data], laidTests := true, laidLooks := .later }
def AnnivSameCardSaid : Prop := Claim7.holds Tryd.pinned (.plain (OpenSpec.ofChange annivSameSpec)) annivSameCard

/-- THE TIED CARD OF 'almanackerlaw18.AnnivLater'. -/
def annivLaterCard : Claim7 := { stood := { row := annivLaterRow, standIns := [], harness := (true, "f242ec3cb0809c90fd98f93d50e08620d364886b6cf579b560e821398921159b"), looks := false }, kinds := [], alts := [], laidByText := true, laidKinds := [.data, .data], laidTests := true, laidLooks := .later }
def AnnivLaterCardSaid : Prop := Claim7.holds Tryd.pinned (.plain (OpenSpec.ofChange annivLaterSpec)) annivLaterCard

/-- THE SECOND FORM's CARD OF 'almanackerlaw11.GregTells'. -/
def gregTellsUptoCard : Claim7 := { stood := { row := gregTellsUptoRow, standIns := [], harness := (true, "f242ec3cb0809c90fd98f93d50e08620d364886b6cf579b560e821398921159b"), looks := false }, kinds := [], alts := [], laidByText := true, laidKinds := [.data], laidTests := true, laidLooks := .later }
def GregTellsUptoCardSaid : Prop := Claim7.holds Tryd.pinned (.plain (OpenSpec.upto gregTellsSpec)) gregTellsUptoCard

/-- THE SECOND FORM's CARD OF 'almanackerlaw11.GregBack'. -/
def gregBackUptoCard : Claim7 := { stood := { row := gregBackUptoRow, standIns := [], harness := (true, "f242ec3cb0809c90fd98f93d50e08620d364886b6cf579b560e821398921159b"), looks := false }, kinds := [], alts := [], laidByText := true, laidKinds := [.data], laidTests := true, laidLooks := .later }
def GregBackUptoCardSaid : Prop := Claim7.holds Tryd.pinned (.plain (OpenSpec.upto gregBackSpec)) gregBackUptoCard

/-- THE SECOND FORM's CARD OF 'almanackerlaw11.GregNext'. -/
def gregNextUptoCard : Claim7 := { stood := { row := gregNextUptoRow, standIns := [], harness := (true, "f242ec3cb0809c90fd98f93d50e08620d364886b6cf579b560e821398921159b"), looks := false }, kinds := [], alts := [], laidByText := true, laidKinds := [.data], laidTests := true, laidLooks := .later }
def GregNextUptoCardSaid : Prop := Claim7.holds Tryd.pinned (.plain (OpenSpec.upto gregNextSpec)) gregNextUptoCard

/-- THE SECOND FORM's CARD OF 'almanackerlaw11.GregRound'. -/
def gregRoundUptoCard : Claim7 := { stood := { row := gregRoundUptoRow, standIns := [], harness := (true, "f242ec3cb0809c90fd98f93d50e08620d364886b6cf579b560e821398921159b"), looks := false }, kinds := [], alts := [], laidByText := true, laidKinds := [.data], laidTests := true, laidLooks := .later }
def GregRoundUptoCardSaid : Prop := Claim7.holds Tryd.pinned (.plain (OpenSpec.upto gregRoundSpec)) gregRoundUptoCard

/-- THE SECOND FORM's CARD OF 'almanackerlaw13.TextOrder'. -/
def textOrderUptoCard : Claim7 := { stood := { row := textOrderUptoRow, standIns := [], harness := (true, "f242ec3cb0809c90fd98f93d50e08620d364886b6cf579b560e821398921159b"), looks := false }, kinds := [], alts := [], laidByText := true, laidKinds := [.data, .data, .data, .data, .data, .pinned], laidTests := true, laidLooks := .later }
def TextOrderUptoCardSaid : Prop := Claim7.holds Tryd.pinned (.plain (OpenSpec.upto textOrderSpec)) textOrderUptoCard

/-- THE SECOND FORM's CARD OF 'almanackerlaw14.NameBack'. -/
def nameBackUptoCard : Claim7 := { stood := { row := nameBackUptoRow, standIns := [], harness := (true, "f242ec3cb0809c90fd98f93d50e08620d364886b6cf579b560e821398921159b"), looks := false }, kinds := [], alts := [], laidByText := true, laidKinds := [.data, .data, .data, .data, .data, .data], laidTests := true, laidLooks := .later }
def NameBackUptoCardSaid : Prop := Claim7.holds Tryd.pinned (.plain (OpenSpec.upto nameBackSpec)) nameBackUptoCard

/-- THE SECOND FORM's CARD OF 'almanackerlaw14.NameMonths'. -/
def nameMonthsUptoCard : Claim7 := { stood := { row := nameMonthsUptoRow, standIns := [], harness := (true, "f242ec3cb0809c90fd98f93d50e08620d364886b6cf579b560e821398921159b"), looks := false }, kinds := [], alts := [], laidByText := true, laidKinds := [.data, .data, .data, .data, .data, .data], laidTests := true, laidLooks := .later }
def NameMonthsUptoCardSaid : Prop := Claim7.holds Tryd.pinned (.plain (OpenSpec.upto nameMonthsSpec)) nameMonthsUptoCard

/-- THE SECOND FORM's CARD OF 'almanackerlaw15.ShiftTells'. -/
def shiftTellsUptoCard : Claim7 := { stood := { row := shiftTellsUptoRow, standIns := [], harness := (true, "f242ec3cb0809c90fd98f93d50e08620d364886b6cf579b560e821398921159b"), looks := false }, kinds := [], alts := [], laidByText := true, laidKinds := [.data, .data], laidTests := true, laidLooks := .later }
def ShiftTellsUptoCardSaid : Prop := Claim7.holds Tryd.pinned (.plain (OpenSpec.upto shiftTellsSpec)) shiftTellsUptoCard

/-- THE SECOND FORM's CARD OF 'almanackerlaw15.ShiftBack'. -/
def shiftBackUptoCard : Claim7 := { stood := { row := shiftBackUptoRow, standIns := [], harness := (true, "f242ec3cb0809c90fd98f93d50e08620d364886b6cf579b560e821398921159b"), looks := false }, kinds := [], alts := [], laidByText := true, laidKinds := [.data, .data], laidTests := true, laidLooks := .later }
def ShiftBackUptoCardSaid : Prop := Claim7.holds Tryd.pinned (.plain (OpenSpec.upto shiftBackSpec)) shiftBackUptoCard

/-- THE SECOND FORM's CARD OF 'almanackerlaw15.ShiftOne'. -/
def shiftOneUptoCard : Claim7 := { stood := { row := shiftOneUptoRow, standIns := [], harness := (true, "f242ec3cb0809c90fd98f93d50e08620d364886b6cf579b560e821398921159b"), looks := false }, kinds := [], alts := [], laidByText := true, laidKinds := [.data, .data], laidTests := true, laidLooks := .later }
def ShiftOneUptoCardSaid : Prop := Claim7.holds Tryd.pinned (.plain (OpenSpec.upto shiftOneSpec)) shiftOneUptoCard

/-- THE SECOND FORM's CARD OF 'almanackerlaw16.AddDays'. -/
def addDaysUptoCard : Claim7 := { stood := { row := addDaysUptoRow, standIns := [], harness := (true, "f242ec3cb0809c90fd98f93d50e08620d364886b6cf579b560e821398921159b"), looks := false }, kinds := [], alts := [], laidByText := true, laidKinds := [.data, .data], laidTests := true, laidLooks := .later }
def AddDaysUptoCardSaid : Prop := Claim7.holds Tryd.pinned (.plain (OpenSpec.upto addDaysSpec)) addDaysUptoCard

/-- THE SECOND FORM's CARD OF 'almanackerlaw16.AddModes'. -/
def addModesUptoCard : Claim7 := { stood := { row := addModesUptoRow, standIns := [], harness := (true, "f242ec3cb0809c90fd98f93d50e08620d364886b6cf579b560e821398921159b"), looks := false }, kinds := [], alts := [], laidByText := true, laidKinds := [.data, .data], laidTests := true, laidLooks := .later }
def AddModesUptoCardSaid : Prop := Claim7.holds Tryd.pinned (.plain (OpenSpec.upto addModesSpec)) addModesUptoCard

/-- THE SECOND FORM's CARD OF 'almanackerlaw16.AddRises'. -/
def addRisesUptoCard : Claim7 := { stood := { row := addRisesUptoRow, standIns := [], harness := (true, "f242ec3cb0809c90fd98f93d50e08620d364886b6cf579b560e821398921159b"), looks := false }, kinds := [], alts := [], laidByText := true, laidKinds := [.data, .data], laidTests := true, laidLooks := .later }
def AddRisesUptoCardSaid : Prop := Claim7.holds Tryd.pinned (.plain (OpenSpec.upto addRisesSpec)) addRisesUptoCard

/-- THE SECOND FORM's CARD OF 'almanackerlaw18.AnnivTells'. -/
def annivTellsUptoCard : Claim7 := { stood := { row := annivTellsUptoRow, standIns := [], harness := (true, "f242ec3cb0809c90fd98f93d50e08620d364886b6cf579b560e821398921159b"), looks := false }, kinds := [], alts := [], laidByText := true, laidKinds := [.data, .data], laidTests := true, laidLooks := .later }
def AnnivTellsUptoCardSaid : Prop := Claim7.holds Tryd.pinned (.plain (OpenSpec.upto annivTellsSpec)) annivTellsUptoCard

/-- THE SECOND FORM's CARD OF 'almanackerlaw18.AnnivSame'. -/
def annivSameUptoCard : Claim7 := { stood := { row := annivSameUptoRow, standIns := [], harness := (true, "f242ec3cb0809c90fd98f93d50e08620d364886b6cf579b560e821398921159b"), looks := false }, kinds := [], alts := [], laidByText := true, laidKinds := [.data, .data], laidTests := true, laidLooks := .later }
def AnnivSameUptoCardSaid : Prop := Claim7.holds Tryd.pinned (.plain (OpenSpec.upto annivSameSpec)) annivSameUptoCard

/-- THE SECOND FORM's CARD OF 'almanackerlaw18.AnnivLater'. -/
def annivLaterUptoCard : Claim7 := { stood := { row := annivLaterUptoRow, standIns := [], harness := (true, "f242ec3cb0809c90fd98f93d50e08620d364886b6cf579b560e821398921159b"), looks := false }, kinds := [], alts := [], laidByText := true, laidKinds := [.data, .data], laidTests := true, laidLooks := .later }
def AnnivLaterUptoCardSaid : Prop := Claim7.holds Tryd.pinned (.plain (OpenSpec.upto annivLaterSpec)) annivLaterUptoCard
end Rows
end Go.Proofs.YtncckpfenjokmaaDoor
