/-
  DERIVED. GIVEN WITH THE SEED: THE CARDS: each row of YtjdogojjoekphaaGreatDoorRows.lean that lists a variable, with what it lists TIED to the program's text (the seventh form; the later family's looks); each row that meets fmt, with fmt's text TOLD by the authors' own Lean function (tested against real Go, not proved from fmt's source: count such statements apart). THE CARD IS WHAT COUNTS. Prove the row's statement (the work); the ties are given (YtjdogojjoekphaaGreatDoorTie.lean); close each card by the builder's one call (the guide's Derived/Test/ToyasCard.lean, 'card_holds'). Laid BY PROGRAM, IN A SANDBOX (cutbox-door.mjs). By AI agents, Wed Nov 11 2026. No macro, syntax, notation, axiom, sorry.
-/
import Derived.Test.YtjdogojjoekphaaGreatDoorRows
import GoSem.ClaimSeven
namespace Go.Proofs.YtjdogojjoekphaaGreatDoor
namespace Rows

/-- THE TIED CARD OF 'almanackerlaw22.SpecialTells'. -/
def specialTellsCard : Claim7 := { stood := { row := specialTellsRow, standIns := [], harness := (true, "f90dbf287bae3f40378c884d6bfcb0be895e8313cbcb60b6ecc90b53c4de68f0"), looks := false }, kinds := [], alts := [], laidByText := true, laidKinds := [.data, .data], laidTests := true, laidLooks := .later }
def SpecialTellsCardSaid : Prop := Claim7.holds Tryz.pinned (.plain (OpenSpec.ofChange specialTellsSpec)) specialTellsCard

/-- THE SECOND FORM's CARD OF 'almanackerlaw22.SpecialTells'. -/
def specialTellsUptoCard : Claim7 := { stood := { row := specialTellsUptoRow, standIns := [], harness := (true, "f90dbf287bae3f40378c884d6bfcb0be895e8313cbcb60b6ecc90b53c4de68f0"), looks := false }, kinds := [], alts := [], laidByText := true, laidKinds := [.data, .data], laidTests := true, laidLooks := .later }
def SpecialTellsUptoCardSaid : Prop := Claim7.holds Tryz.pinned (.plain (OpenSpec.upto specialTellsSpec)) specialTellsUptoCard
end Rows
end Go.Proofs.YtjdogojjoekphaaGreatDoor
