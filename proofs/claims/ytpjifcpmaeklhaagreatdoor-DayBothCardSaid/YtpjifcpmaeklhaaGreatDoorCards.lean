/-
  DERIVED. GIVEN WITH THE SEED: THE CARDS: each row of YtpjifcpmaeklhaaGreatDoorRows.lean that lists a variable, with what it lists TIED to the program's text (the seventh form; the later family's looks); each row that meets fmt, with fmt's text TOLD by the authors' own Lean function (tested against real Go, not proved from fmt's source: count such statements apart). THE CARD IS WHAT COUNTS. Prove the row's statement (the work); the ties are given (YtpjifcpmaeklhaaGreatDoorTie.lean); close each card by the builder's one call (the guide's Derived/Test/ToyasCard.lean, 'card_holds'). Laid BY PROGRAM, IN A SANDBOX (cutbox-door.mjs). By AI agents, Wed Nov 11 2026. No macro, syntax, notation, axiom, sorry.
-/
import Derived.Test.YtpjifcpmaeklhaaGreatDoorRows
import GoSem.ClaimSeven
namespace Go.Proofs.YtpjifcpmaeklhaaGreatDoor
namespace Rows

/-- THE TIED CARD OF 'almanackerlaw25.DayBoth'. -/
def dayBothCard : Claim7 := { stood := { row := dayBothRow, standIns := [], harness := (true, "d0731e8847a15ac67b314e3ccc82344b2e0f1fb21fe75c3a0f01948692b724a1"), looks := false }, kinds := [], alts := [], goes := true, laidByText := true, laidKinds := [.data, .data, .data, .data, .data], laidTests := true, laidLooks := .later }
def DayBothCardSaid : Prop := Claim7.holds Tryz.pinned (.plain (OpenSpec.ofChange dayBothSpec)) dayBothCard

/-- THE TIED CARD OF 'almanackerlaw25.DayPlaces'. -/
def dayPlacesCard : Claim7 := { stood := { row := dayPlacesRow, standIns := [], harness := (true, "d0731e8847a15ac67b314e3ccc82344b2e0f1fb21fe75c3a0f01948692b724a1"), looks := false }, kinds := [], alts := [], goes := true, laidByText := true, laidKinds := [.data, .data, .data, .data, .data], laidTests := true, laidLooks := .later }
def DayPlacesCardSaid : Prop := Claim7.holds Tryz.pinned (.plain (OpenSpec.ofChange dayPlacesSpec)) dayPlacesCard

/-- THE SECOND FORM's CARD OF 'almanackerlaw25.DayBoth'. -/
def dayBothUptoCard : Claim7 := { stood := { row := dayBothUptoRow, standIns := [], harness := (true, "d0731e8847a15ac67b314e3ccc82344b2e0f1fb21fe75c3a0f01948692b724a1"), looks := false }, kinds := [], alts := [], goes := true, laidByText := true, laidKinds := [.data, .data, .data, .data, .data], laidTests := true, laidLooks := .later }
def DayBothUptoCardSaid : Prop := Claim7.holds Tryz.pinned (.plain (OpenSpec.upto dayBothSpec)) dayBothUptoCard

/-- THE SECOND FORM's CARD OF 'almanackerlaw25.DayPlaces'. -/
def dayPlacesUptoCard : Claim7 := { stood := { row := dayPlacesUptoRow, standIns := [], harness := (true, "d0731e8847a15ac67b314e3ccc82344b2e0f1fb21fe75c3a0f01948692b724a1"), looks := false }, kinds := [], alts := [], goes := true, laidByText := true, laidKinds := [.data, .data, .data, .data, .data], laidTests := true, laidLooks := .later }
def DayPlacesUptoCardSaid : Prop := Claim7.holds Tryz.pinned (.plain (OpenSpec.upto dayPlacesSpec)) dayPlacesUptoCard
end Rows
end Go.Proofs.YtpjifcpmaeklhaaGreatDoor
