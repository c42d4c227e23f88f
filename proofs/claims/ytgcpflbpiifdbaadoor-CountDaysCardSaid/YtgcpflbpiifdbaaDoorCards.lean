/-
  DERIVED. GIVEN WITH THE SEED: THE CARDS: each row of YtgcpflbpiifdbaaDoorRows.lean that lists a variable, with what it lists TIED to the program's text (the seventh form; the later family's looks); each row that meets fmt, with fmt's text TOLD by the authors' own Lean function (tested against real Go, not proved from fmt's source: count such statements apart). THE CARD IS WHAT COUNTS. Prove the row's statement (the work); the ties are given (YtgcpflbpiifdbaaDoorTie.lean); close each card by the builder's one call (the guide's Derived/Test/ToyasCard.lean, 'card_holds'). Laid BY PROGRAM, IN A SANDBOX (cutbox-door.mjs). By AI agents, Wed Nov 11 2026. No macro, syntax, notation, axiom, sorry.
-/
import Derived.Test.YtgcpflbpiifdbaaDoorRows
import GoSem.ClaimSeven
namespace Go.Proofs.YtgcpflbpiifdbaaDoor
namespace Rows

/-- THE TIED CARD OF 'almanackerlaw27.CountDays'. -/
def countDaysCard : Claim7 := { stood := { row := countDaysRow, standIns := [], harness := (true, "c45fd9639a73c6bb1e7ae3b51ffdcd9a15f6cc368ccc4dff71d52e7b4f7f3410"), looks := false }, kinds := [], alts := [], laidByText := true, laidKinds := [.data, .data], laidTests := true, laidLooks := .later }
def CountDaysCardSaid : Prop := Claim7.holds Tryd.pinned (.plain (OpenSpec.ofChange countDaysSpec)) countDaysCard

/-- THE SECOND FORM's CARD OF 'almanackerlaw27.CountDays'. -/
def countDaysUptoCard : Claim7 := { stood := { row := countDaysUptoRow, standIns := [], harness := (true, "c45fd9639a73c6bb1e7ae3b51ffdcd9a15f6cc368ccc4dff71d52e7b4f7f3410"), looks := false }, kinds := [], alts := [], laidByText := true, laidKinds := [.data, .data], laidTests := true, laidLooks := .later }
def CountDaysUptoCardSaid : Prop := Claim7.holds Tryd.pinned (.plain (OpenSpec.upto countDaysSpec)) countDaysUptoCard
end Rows
end Go.Proofs.YtgcpflbpiifdbaaDoor
