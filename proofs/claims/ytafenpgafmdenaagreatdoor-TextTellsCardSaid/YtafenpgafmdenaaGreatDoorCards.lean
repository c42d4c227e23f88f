/-
  DERIVED. GIVEN WITH THE SEED: THE CARDS: each row of YtafenpgafmdenaaGreatDoorRows.lean that lists a variable, with what it lists TIED to the program's text (the seventh form; the later family's looks); each row that meets fmt, with fmt's text TOLD by the authors' own Lean function (tested against real Go, not proved from fmt's source: count such statements apart). THE CARD IS WHAT COUNTS. Prove the row's statement (the work); the ties are given (YtafenpgafmdenaaGreatDoorTie.lean); close each card by the builder's one call (the guide's Derived/Test/ToyasCard.lean, 'card_holds'). Laid BY PROGRAM, IN A SANDBOX (cutbox-door.mjs). By AI agents, Wed Nov 11 2026. No macro, syntax, notation, axiom, sorry.
-/
import Derived.Test.YtafenpgafmdenaaGreatDoorRows
import GoSem.ClaimSeven
namespace Go.Proofs.YtafenpgafmdenaaGreatDoor
namespace Rows

/-- THE TIED CARD OF 'almanackerlaw13.TextTells'. -/
def textTellsCard : Claim7 := { stood := { row := textTellsRow, standIns := [], harness := (true, "8fa13330c325e6fa45d97e9960e13d7bf43c5816f90837a14187797bfe2c3852"), looks := false }, kinds := [], alts := [], laidByText := true, laidKinds := [.data, .data, .data, .data, .data, .pinned], laidTests := true, laidLooks := .later }
def TextTellsCardSaid : Prop := Claim7.holds Tryz.pinned (.plain (OpenSpec.ofChange textTellsSpec)) textTellsCard

/-- THE TIED CARD OF 'almanackerlaw13.TextBack'. -/
def textBackCard : Claim7 := { stood := { row := textBackRow, standIns := [], harness := (true, "8fa13330c325e6fa45d97e9960e13d7bf43c5816f90837a14187797bfe2c3852"), looks := false }, kinds := [], alts := [], laidByText := true, laidKinds := [.data, .data, .data, .data, .data, .pinned], laidTests := true, laidLooks := .later }
def TextBackCardSaid : Prop := Claim7.holds Tryz.pinned (.plain (OpenSpec.ofChange textBackSpec)) textBackCard

/-- THE TIED CARD OF 'almanackerlaw14.NameTells'. -/
def nameTellsCard : Claim7 := { stood := { row := nameTellsRow, standIns := [], harness := (true, "8fa13330c325e6fa45d97e9960e13d7bf43c5816f90837a14187797bfe2c3852"), looks := false }, kinds := [], alts := [], laidByText := true, laidKinds := [.data, .data, .data, .data, .data, .data], laidTests := true, laidLooks := .later }
def NameTellsCardSaid : Prop := Claim7.holds Tryz.pinned (.plain (OpenSpec.ofChange nameTellsSpec)) nameTellsCard

/-- THE TIED CARD OF 'almanackerlaw16.AddTells'. -/
def addTellsCard : Claim7 := { stood := { row := addTellsRow, standIns := [], harness := (true, "8fa13330c325e6fa45d97e9960e13d7bf43c5816f90837a14187797bfe2c3852"), looks := false }, kinds := [], alts := [], laidByText := true, laidKinds := [.data, .data], laidTests := true, laidLooks := .later }
def AddTellsCardSaid : Prop := Claim7.holds Tryz.pinned (.plain (OpenSpec.ofChange addTellsSpec)) addTellsCard

/-- THE TIED CARD OF 'almanackerlaw17.UntilTells'. -/
def untilTellsCard : Claim7 := { stood := { row := untilTellsRow, standIns := [], harness := (true, "8fa13330c325e6fa45d97e9960e13d7bf43c5816f90837a14187797bfe2c3852"), looks := false }, kinds := [], alts := [], laidByText := true, laidKinds := [.data, .data], laidTests := true, laidLooks := .later }
def UntilTellsCardSaid : Prop := Claim7.holds Tryz.pinned (.plain (OpenSpec.ofChange untilTellsSpec)) untilTellsCard

/-- THE TIED CARD OF 'almanackerlaw17.UntilBack'. -/
def untilBackCard : Claim7 := { stood := { row := untilBackRow, standIns := [], harness := (true, "8fa13330c325e6fa45d97e9960e13d7bf43c5816f90837a14187797bfe2c3852"), looks := false }, kinds := [], alts := [], laidByText := true, laidKinds := [.data, .data], laidTests := true, laidLooks := .later }
def UntilBackCardSaid : Prop := Claim7.holds Tryz.pinned (.plain (OpenSpec.ofChange untilBackSpec)) untilBackCard

/-- THE TIED CARD OF 'almanackerlaw17.UntilMost'. -/
def untilMostCard : Claim7 := { stood := { row := untilMostRow, standIns := [], harness := (true, "8fa13330c325e6fa45d97e9960e13d7bf43c5816f90837a14187797bfe2c3852"), looks := false }, kinds := [], alts := [], laidByText := true, laidKinds := [.data, .data], laidTests := true, laidLooks := .later }
def UntilMostCardSaid : Prop := Claim7.holds Tryz.pinned (.plain (OpenSpec.ofChange untilMostSpec)) untilMostCard

/-- THE SECOND FORM's CARD OF 'almanackerlaw13.TextTells'. -/
def textTellsUptoCard : Claim7 := { stood := { row := textTellsUptoRow, standIns := [], harness := (true, "8fa13330c325e6fa45d97e9960e13d7bf43c5816f90837a14187797bfe2c3852"), looks := false }, kinds := [], alts := [], laidByText := true, laidKinds := [.data, .data, .data, .data, .data, .pinned], laidTests := true, laidLooks := .later }
def TextTellsUptoCardSaid : Prop := Claim7.holds Tryz.pinned (.plain (OpenSpec.upto textTellsSpec)) textTellsUptoCard

/-- THE SECOND FORM's CARD OF 'almanackerlaw13.TextBack'. -/
def textBackUptoCard : Claim7 := { stood := { row := textBackUptoRow, standIns := [], harness := (true, "8fa13330c325e6fa45d97e9960e13d7bf43c5816f90837a14187797bfe2c3852"), looks := false }, kinds := [], alts := [], laidByText := true, laidKinds := [.data, .data, .data, .data, .data, .pinned], laidTests := true, laidLooks := .later }
def TextBackUptoCardSaid : Prop := Claim7.holds Tryz.pinned (.plain (OpenSpec.upto textBackSpec)) textBackUptoCard

/-- THE SECOND FORM's CARD OF 'almanackerlaw14.NameTells'. -/
def nameTellsUptoCard : Claim7 := { stood := { row := nameTellsUptoRow, standIns := [], harness := (true, "8fa13330c325e6fa45d97e9960e13d7bf43c5816f90837a14187797bfe2c3852"), looks := false }, kinds := [], alts := [], laidByText := true, laidKinds := [.data, .data, .data, .data, .data, .data], laidTests := true, laidLooks := .later }
def NameTellsUptoCardSaid : Prop := Claim7.holds Tryz.pinned (.plain (OpenSpec.upto nameTellsSpec)) nameTellsUptoCard

/-- THE SECOND FORM's CARD OF 'almanackerlaw16.AddTells'. -/
def addTellsUptoCard : Claim7 := { stood := { row := addTellsUptoRow, standIns := [], harness := (true, "8fa13330c325e6fa45d97e9960e13d7bf43c5816f90837a14187797bfe2c3852"), looks := false }, kinds := [], alts := [], laidByText := true, laidKinds := [.data, .data], laidTests := true, laidLooks := .later }
def AddTellsUptoCardSaid : Prop := Claim7.holds Tryz.pinned (.plain (OpenSpec.upto addTellsSpec)) addTellsUptoCard

/-- THE SECOND FORM's CARD OF 'almanackerlaw17.UntilTells'. -/
def untilTellsUptoCard : Claim7 := { stood := { row := untilTellsUptoRow, standIns := [], harness := (true, "8fa13330c325e6fa45d97e9960e13d7bf43c5816f90837a14187797bfe2c3852"), looks := false }, kinds := [], alts := [], laidByText := true, laidKinds := [.data, .data], laidTests := true, laidLooks := .later }
def UntilTellsUptoCardSaid : Prop := Claim7.holds Tryz.pinned (.plain (OpenSpec.upto untilTellsSpec)) untilTellsUptoCard

/-- THE SECOND FORM's CARD OF 'almanackerlaw17.UntilBack'. -/
def untilBackUptoCard : Claim7 := { stood := { row := untilBackUptoRow, standIns := [], harness := (true, "8fa13330c325e6fa45d97e9960e13d7bf43c5816f90837a14187797bfe2c3852"), looks := false }, kinds := [], alts := [], laidByText := true, laidKinds := [.data, .data], laidTests := true, laidLooks := .later }
def UntilBackUptoCardSaid : Prop := Claim7.holds Tryz.pinned (.plain (OpenSpec.upto untilBackSpec)) untilBackUptoCard

/-- THE SECOND FORM's CARD OF 'almanackerlaw17.UntilMost'. -/
def untilMostUptoCard : Claim7 := { stood := { row := untilMostUptoRow, standIns := [], harness := (true, "8fa13330c325e6fa45d97e9960e13d7bf43c5816f90837a14187797bfe2c3852"), looks := false }, kinds := [], alts := [], laidByText := true, laidKinds := [.data, .data], laidTests := true, laidLooks := .later }
def UntilMostUptoCardSaid : Prop := Claim7.holds Tryz.pinned (.plain (OpenSpec.upto untilMostSpec)) untilMostUptoCard
end Rows
end Go.Proofs.YtafenpgafmdenaaGreatDoor
