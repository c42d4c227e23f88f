/-
  DERIVED. GIVEN WITH THE SEED: THE CARDS: each row of YtmiadhiomingmaaDoorRows.lean that lists a variable, with what it lists TIED to the program's text (the seventh form; the later family's looks); each row that meets fmt, with fmt's text TOLD by the authors' own Lean function (tested against real Go, not proved from fmt's source: count such statements apart). THE CARD IS WHAT COUNTS. Prove the row's statement (the work); the ties are given (YtmiadhiomingmaaDoorTie.lean); close each card by the builder's one call (the guide's Derived/Test/ToyasCard.lean, 'card_holds'). Laid BY PROGRAM, IN A SANDBOX (cutbox-door.mjs). By AI agents, Wed Nov 11 2026. No macro, syntax, notation, axiom, sorry.
-/
import Derived.Test.YtmiadhiomingmaaDoorRows
import GoSem.ClaimSeven
namespace Go.Proofs.YtmiadhiomingmaaDoor
namespace Rows

/-- THE TIED CARD OF 'almanackerlaw13.TextOrder'. -/
def textOrderCard : Claim7 := { stood := { row := textOrderRow, standIns := [], harness := (true, "4df3110db69c812a2453e7282d7530653cf40ae5d16847ecf3f30bef1bfbffc4"), looks := false }, kinds := [], alts := [], laidByText := true, laidKinds := [.data, .data, .data, .data, .data, .pinned], laidTests := true, laidLooks := .later }
def TextOrderCardSaid : Prop := Claim7.holds Tryd.pinned (.plain (OpenSpec.ofChange textOrderSpec)) textOrderCard

/-- THE TIED CARD OF 'almanackerlaw14.NameBack'. -/
def nameBackCard : Claim7 := { stood := { row := nameBackRow, standIns := [], harness := (true, "4df3110db69c812a2453e7282d7530653cf40ae5d16847ecf3f30bef1bfbffc4"), looks := false }, kinds := [], alts := [], laidByText := true, laidKinds := [.data, .data, .data, .data, .data, .data], laidTests := true, laidLooks := .later }
def NameBackCardSaid : Prop := Claim7.holds Tryd.pinned (.plain (OpenSpec.ofChange nameBackSpec)) nameBackCard

/-- THE TIED CARD OF 'almanackerlaw14.NameMonths'. -/
def nameMonthsCard : Claim7 := { stood := { row := nameMonthsRow, standIns := [], harness := (true, "4df3110db69c812a2453e7282d7530653cf40ae5d16847ecf3f30bef1bfbffc4"), looks := false }, kinds := [], alts := [], laidByText := true, laidKinds := [.data, .data, .data, .data, .data, .data], laidTests := true, laidLooks := .later }
def NameMonthsCardSaid : Prop := Claim7.holds Tryd.pinned (.plain (OpenSpec.ofChange nameMonthsSpec)) nameMonthsCard

/-- THE TIED CARD OF 'almanackerlaw16.AddDays'. -/
def addDaysCard : Claim7 := { stood := { row := addDaysRow, standIns := [], harness := (true, "4df3110db69c812a2453e7282d7530653cf40ae5d16847ecf3f30bef1bfbffc4"), looks := false }, kinds := [], alts := [], laidByText := true, laidKinds := [.data, .data], laidTests := true, laidLooks := .later }
def AddDaysCardSaid : Prop := Claim7.holds Tryd.pinned (.plain (OpenSpec.ofChange addDaysSpec)) addDaysCard

/-- THE TIED CARD OF 'almanackerlaw16.AddModes'. -/
def addModesCard : Claim7 := { stood := { row := addModesRow, standIns := [], harness := (true, "4df3110db69c812a2453e7282d7530653cf40ae5d16847ecf3f30bef1bfbffc4"), looks := false }, kinds := [], alts := [], laidByText := true, laidKinds := [.data, .data], laidTests := true, laidLooks := .later }
def AddModesCardSaid : Prop := Claim7.holds Tryd.pinned (.plain (OpenSpec.ofChange addModesSpec)) addModesCard

/-- THE TIED CARD OF 'almanackerlaw16.AddRises'. -/
def addRisesCard : Claim7 := { stood := { row := addRisesRow, standIns := [], harness := (true, "4df3110db69c812a2453e7282d7530653cf40ae5d16847ecf3f30bef1bfbffc4"), looks := false }, kinds := [], alts := [], laidByText := true, laidKinds := [.data, .data], laidTests := true, laidLooks := .later }
def AddRisesCardSaid : Prop := Claim7.holds Tryd.pinned (.plain (OpenSpec.ofChange addRisesSpec)) addRisesCard

/-- THE TIED CARD OF 'almanackerlaw18.AnnivTells'. -/
def annivTellsCard : Claim7 := { stood := { row := annivTellsRow, standIns := [], harness := (true, "4df3110db69c812a2453e7282d7530653cf40ae5d16847ecf3f30bef1bfbffc4"), looks := false }, kinds := [], alts := [], laidByText := true, laidKinds := [.data, .data], laidTests := true, laidLooks := .later }
def AnnivTellsCardSaid : Prop := Claim7.holds Tryd.pinned (.plain (OpenSpec.ofChange annivTellsSpec)) annivTellsCard

/-- THE TIED CARD OF 'almanackerlaw18.AnnivSame'. -/
def annivSameCard : Claim7 := { stood := { row := annivSameRow, standIns := [], harness := (true, "4df3110db69c812a2453e7282d7530653cf40ae5d16847ecf3f30bef1bfbffc4"), looks := false }, kinds := [], alts := [], laidByText := true, laidKinds := [.data, .data], laidTests := true, laidLooks := .later }
def AnnivSameCardSaid : Prop := Claim7.holds Tryd.pinned (.plain (OpenSpec.ofChange annivSameSpec)) annivSameCard

/-- THE TIED CARD OF 'almanackerlaw18.AnnivLater'. -/
def annivLaterCard : Claim7 := { stood := { row := annivLaterRow, standIns := [], harness := (true, "4df3110db69c812a2453e7282d7530653cf40ae5d16847ecf3f30bef1bfbffc4"), looks := false }, kinds := [], alts := [], laidByText := true, laidKinds := [.data, .data], laidTests := true, laidLooks := .later }
def AnnivLaterCardSaid : Prop := Claim7.holds Tryd.pinned (.plain (OpenSpec.ofChange annivLaterSpec)) annivLaterCard

/-- THE SECOND FORM's CARD OF 'almanackerlaw13.TextOrder'. -/
def textOrderUptoCard : Claim7 := { stood := { row := textOrderUptoRow, standIns := [], harness := (true, "4df3110db69c812a2453e7282d7530653cf40ae5d16847ecf3f30bef1bfbffc4"), looks := false }, kinds := [], alts := [], laidByText := true, laidKinds := [.data, .data, .data, .data, .data, .pinned], laidTests := true, laidLooks := .later }
def TextOrderUptoCardSaid : Prop := Claim7.holds Tryd.pinned (.plain (OpenSpec.upto textOrderSpec)) textOrderUptoCard

/-- THE SECOND FORM's CARD OF 'almanackerlaw14.NameBack'. -/
def nameBackUptoCard : Claim7 := { stood := { row := nameBackUptoRow, standIns := [], harness := (true, "4df3110db69c812a2453e7282d7530653cf40ae5d16847ecf3f30bef1bfbffc4"), looks := false }, kinds := [], alts := [], laidByText := true, laidKinds := [.data, .data, .data, .data, .data, .data], laidTests := true, laidLooks := .later }
def NameBackUptoCardSaid : Prop := Claim7.holds Tryd.pinned (.plain (OpenSpec.upto nameBackSpec)) nameBackUptoCard

/-- THE SECOND FORM's CARD OF 'almanackerlaw14.NameMonths'. -/
def nameMonthsUptoCard : Claim7 := { stood := { row := nameMonthsUptoRow, standIns := [], harness := (true, "4df3110db69c812a2453e7282d7530653cf40ae5d16847ecf3f30bef1bfbffc4"), looks := false }, kinds := [], alts := [], laidByText := true, laidKinds := [.data, .data, .data, .data, .data, .data], laidTests := true, laidLooks := .later }
def NameMonthsUptoCardSaid : Prop := Claim7.holds Tryd.pinned (.plain (OpenSpec.upto nameMonthsSpec)) nameMonthsUptoCard

/-- THE SECOND FORM's CARD OF 'almanackerlaw16.AddDays'. -/
def addDaysUptoCard : Claim7 := { stood := { row := addDaysUptoRow, standIns := [], harness := (true, "4df3110db69c812a2453e7282d7530653cf40ae5d16847ecf3f30bef1bfbffc4"), looks := false }, kinds := [], alts := [], laidByText := true, laidKinds := [.data, .data], laidTests := true, laidLooks := .later }
def AddDaysUptoCardSaid : Prop := Claim7.holds Tryd.pinned (.plain (OpenSpec.upto addDaysSpec)) addDaysUptoCard

/-- THE SECOND FORM's CARD OF 'almanackerlaw16.AddModes'. -/
def addModesUptoCard : Claim7 := { stood := { row := addModesUptoRow, standIns := [], harness := (true, "4df3110db69c812a2453e7282d7530653cf40ae5d16847ecf3f30bef1bfbffc4"), looks := false }, kinds := [], alts := [], laidByText := true, laidKinds := [.data, .data], laidTests := true, laidLooks := .later }
def AddModesUptoCardSaid : Prop := Claim7.holds Tryd.pinned (.plain (OpenSpec.upto addModesSpec)) addModesUptoCard

/-- THE SECOND FORM's CARD OF 'almanackerlaw16.AddRises'. -/
def addRisesUptoCard : Claim7 := { stood := { row := addRisesUptoRow, standIns := [], harness := (true, "4df3110db69c812a2453e7282d7530653cf40ae5d16847ecf3f30bef1bfbffc4"), looks := false }, kinds := [], alts := [], laidByText := true, laidKinds := [.data, .data], laidTests := true, laidLooks := .later }
def AddRisesUptoCardSaid : Prop := Claim7.holds Tryd.pinned (.plain (OpenSpec.upto addRisesSpec)) addRisesUptoCard

/-- THE SECOND FORM's CARD OF 'almanackerlaw18.AnnivTells'. -/
def annivTellsUptoCard : Claim7 := { stood := { row := annivTellsUptoRow, standIns := [], harness := (true, "4df3110db69c812a2453e7282d7530653cf40ae5d16847ecf3f30bef1bfbffc4"), looks := false }, kinds := [], alts := [], laidByText := true, laidKinds := [.data, .data], laidTests := true, laidLooks := .later }
def AnnivTellsUptoCardSaid : Prop := Claim7.holds Tryd.pinned (.plain (OpenSpec.upto annivTellsSpec)) annivTellsUptoCard

/-- THE SECOND FORM's CARD OF 'almanackerlaw18.AnnivSame'. -/
def annivSameUptoCard : Claim7 := { stood := { row := annivSameUptoRow, standIns := [], harness := (true, "4df3110db69c812a2453e7282d7530653cf40ae5d16847ecf3f30bef1bfbffc4"), looks := false }, kinds := [], alts := [], laidByText := true, laidKinds := [.data, .data], laidTests := true, laidLooks := .later }
def AnnivSameUptoCardSaid : Prop := Claim7.holds Tryd.pinned (.plain (OpenSpec.upto annivSameSpec)) annivSameUptoCard

/-- THE SECOND FORM's CARD OF 'almanackerlaw18.AnnivLater'. -/
def annivLaterUptoCard : Claim7 := { stood := { row := annivLaterUptoRow, standIns := [], harness := (true, "4df3110db69c812a2453e7282d7530653cf40ae5d16847ecf3f30bef1bfbffc4"), looks := false }, kinds := [], alts := [], laidByText := true, laidKinds := [.data, .data], laidTests := true, laidLooks := .later }
def AnnivLaterUptoCardSaid : Prop := Claim7.holds Tryd.pinned (.plain (OpenSpec.upto annivLaterSpec)) annivLaterUptoCard
end Rows
end Go.Proofs.YtmiadhiomingmaaDoor
