/-
  DERIVED. GIVEN WITH THE SEED: THE CARDS: each row of YtafenpgafmdenaaDoorRows.lean that lists a variable, with what it lists TIED to the program's text (the seventh form; the later family's looks); each row that meets fmt, with fmt's text TOLD by the authors' own Lean function (tested against real Go, not proved from fmt's source: count such statements apart). THE CARD IS WHAT COUNTS. Prove the row's statement (the work); the ties are given (YtafenpgafmdenaaDoorTie.lean); close each card by the builder's one call (the guide's Derived/Test/ToyasCard.lean, 'card_holds'). Laid BY PROGRAM, IN A SANDBOX (cutbox-door.mjs). By AI agents, Wed Nov 11 2026. No macro, syntax, notation, axiom, sorry.
-/
import Derived.Test.YtafenpgafmdenaaDoorRows
import GoSem.ClaimSeven
namespace Go.Proofs.YtafenpgafmdenaaDoor
namespace Rows

/-- THE TIED CARD OF 'almanackerlaw14.NameBack'. -/
def nameBackCard : Claim7 := { stood := { row := nameBackRow, standIns := [], harness := (true, "e261edb4a95a43662d194a55a0d1ebafadb6e19cefce38f30c6e9148a693af5c"), looks := false }, kinds := [], alts := [], laidByText := true, laidKinds := [.data, .data, .data, .data, .data, .data], laidTests := true, laidLooks := .later }
def NameBackCardSaid : Prop := Claim7.holds Tryd.pinned (.plain (OpenSpec.ofChange nameBackSpec)) nameBackCard

/-- THE TIED CARD OF 'almanackerlaw14.NameMonths'. -/
def nameMonthsCard : Claim7 := { stood := { row := nameMonthsRow, standIns := [], harness := (true, "e261edb4a95a43662d194a55a0d1ebafadb6e19cefce38f30c6e9148a693af5c"), looks := false }, kinds := [], alts := [], laidByText := true, laidKinds := [.data, .data, .data, .data, .data, .data], laidTests := true, laidLooks := .later }
def NameMonthsCardSaid : Prop := Claim7.holds Tryd.pinned (.plain (OpenSpec.ofChange nameMonthsSpec)) nameMonthsCard

/-- THE TIED CARD OF 'almanackerlaw27.CountBack'. -/
def countBackCard : Claim7 := { stood := { row := countBackRow, standIns := [], harness := (true, "e261edb4a95a43662d194a55a0d1ebafadb6e19cefce38f30c6e9148a693af5c"), looks := false }, kinds := [], alts := [], laidByText := true, laidKinds := [.data, .data], laidTests := true, laidLooks := .later }
def CountBackCardSaid : Prop := Claim7.holds Tryd.pinned (.plain (OpenSpec.ofChange countBackSpec)) countBackCard

/-- THE SECOND FORM's CARD OF 'almanackerlaw14.NameBack'. -/
def nameBackUptoCard : Claim7 := { stood := { row := nameBackUptoRow, standIns := [], harness := (true, "e261edb4a95a43662d194a55a0d1ebafadb6e19cefce38f30c6e9148a693af5c"), looks := false }, kinds := [], alts := [], laidByText := true, laidKinds := [.data, .data, .data, .data, .data, .data], laidTests := true, laidLooks := .later }
def NameBackUptoCardSaid : Prop := Claim7.holds Tryd.pinned (.plain (OpenSpec.upto nameBackSpec)) nameBackUptoCard

/-- THE SECOND FORM's CARD OF 'almanackerlaw14.NameMonths'. -/
def nameMonthsUptoCard : Claim7 := { stood := { row := nameMonthsUptoRow, standIns := [], harness := (true, "e261edb4a95a43662d194a55a0d1ebafadb6e19cefce38f30c6e9148a693af5c"), looks := false }, kinds := [], alts := [], laidByText := true, laidKinds := [.data, .data, .data, .data, .data, .data], laidTests := true, laidLooks := .later }
def NameMonthsUptoCardSaid : Prop := Claim7.holds Tryd.pinned (.plain (OpenSpec.upto nameMonthsSpec)) nameMonthsUptoCard

/-- THE SECOND FORM's CARD OF 'almanackerlaw27.CountBack'. -/
def countBackUptoCard : Claim7 := { stood := { row := countBackUptoRow, standIns := [], harness := (true, "e261edb4a95a43662d194a55a0d1ebafadb6e19cefce38f30c6e9148a693af5c"), looks := false }, kinds := [], alts := [], laidByText := true, laidKinds := [.data, .data], laidTests := true, laidLooks := .later }
def CountBackUptoCardSaid : Prop := Claim7.holds Tryd.pinned (.plain (OpenSpec.upto countBackSpec)) countBackUptoCard
end Rows
end Go.Proofs.YtafenpgafmdenaaDoor
