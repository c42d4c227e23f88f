/-
  DERIVED. GIVEN WITH THE SEED: THE CARDS: each row of YtankichdmlkfmaaGreatDoorRows.lean that lists a variable, with what it lists TIED to the program's text (the seventh form; the later family's looks); each row that meets fmt, with fmt's text TOLD by the authors' own Lean function (tested against real Go, not proved from fmt's source: count such statements apart). THE CARD IS WHAT COUNTS. Prove the row's statement (the work); the ties are given (YtankichdmlkfmaaGreatDoorTie.lean); close each card by the builder's one call (the guide's Derived/Test/ToyasCard.lean, 'card_holds'). Laid BY PROGRAM, IN A SANDBOX (cutbox-door.mjs). By AI agents, Wed Nov 11 2026. No macro, syntax, notation, axiom, sorry.
-/
import Derived.Test.YtankichdmlkfmaaGreatDoorRows
import GoSem.ClaimSeven
namespace Go.Proofs.YtankichdmlkfmaaGreatDoor
namespace Rows

/-- THE TIED CARD OF 'almanackerlaw24.TorahTells'. -/
def torahTellsCard : Claim7 := { stood := { row := torahTellsRow, standIns := [], harness := (true, "49a01e8b5839b455eef4a38a762291d5a78355a072567e801bd8ae9cbf8a34ee"), looks := false }, kinds := [], alts := [], goes := true, laidByText := true, laidKinds := [.data, .data, .data, .data, .data], laidTests := true, laidLooks := .later }
def TorahTellsCardSaid : Prop := Claim7.holds Tryz.pinned (.plain (OpenSpec.ofChange torahTellsSpec)) torahTellsCard

/-- THE TIED CARD OF 'almanackertop.WholeUntil'. -/
def wholeUntilCard : Claim7 := { stood := { row := wholeUntilRow, standIns := [], harness := (true, "49a01e8b5839b455eef4a38a762291d5a78355a072567e801bd8ae9cbf8a34ee"), looks := false }, kinds := [], alts := [], goes := true, laidByText := true, laidKinds := [.data, .data, .data, .data, .data], laidTests := true, laidLooks := .later }
def WholeUntilCardSaid : Prop := Claim7.holds Tryz.pinned (.plain (OpenSpec.ofChange wholeUntilSpec)) wholeUntilCard

/-- THE TIED CARD OF 'almanackertop.WholeRange'. -/
def wholeRangeCard : Claim7 := { stood := { row := wholeRangeRow, standIns := [], harness := (true, "49a01e8b5839b455eef4a38a762291d5a78355a072567e801bd8ae9cbf8a34ee"), looks := false }, kinds := [], alts := [], goes := true, laidByText := true, laidKinds := [.data, .data, .data, .data, .data, .data], laidTests := true, laidLooks := .later }
def WholeRangeCardSaid : Prop := Claim7.holds Tryz.pinned (.plain (OpenSpec.ofChange wholeRangeSpec)) wholeRangeCard

/-- THE TIED CARD OF 'almanackertop.WholeOmer'. -/
def wholeOmerCard : Claim7 := { stood := { row := wholeOmerRow, standIns := [], harness := (true, "49a01e8b5839b455eef4a38a762291d5a78355a072567e801bd8ae9cbf8a34ee"), looks := false }, kinds := [], alts := [], goes := true, laidByText := true, laidKinds := [.data, .data, .data, .data, .data, .data], laidTests := true, laidLooks := .later }
def WholeOmerCardSaid : Prop := Claim7.holds Tryz.pinned (.plain (OpenSpec.ofChange wholeOmerSpec)) wholeOmerCard

/-- THE SECOND FORM's CARD OF 'almanackerlaw24.TorahTells'. -/
def torahTellsUptoCard : Claim7 := { stood := { row := torahTellsUptoRow, standIns := [], harness := (true, "49a01e8b5839b455eef4a38a762291d5a78355a072567e801bd8ae9cbf8a34ee"), looks := false }, kinds := [], alts := [], goes := true, laidByText := true, laidKinds := [.data, .data, .data, .data, .data], laidTests := true, laidLooks := .later }
def TorahTellsUptoCardSaid : Prop := Claim7.holds Tryz.pinned (.plain (OpenSpec.upto torahTellsSpec)) torahTellsUptoCard

/-- THE SECOND FORM's CARD OF 'almanackertop.WholeUntil'. -/
def wholeUntilUptoCard : Claim7 := { stood := { row := wholeUntilUptoRow, standIns := [], harness := (true, "49a01e8b5839b455eef4a38a762291d5a78355a072567e801bd8ae9cbf8a34ee"), looks := false }, kinds := [], alts := [], goes := true, laidByText := true, laidKinds := [.data, .data, .data, .data, .data], laidTests := true, laidLooks := .later }
def WholeUntilUptoCardSaid : Prop := Claim7.holds Tryz.pinned (.plain (OpenSpec.upto wholeUntilSpec)) wholeUntilUptoCard

/-- THE SECOND FORM's CARD OF 'almanackertop.WholeRange'. -/
def wholeRangeUptoCard : Claim7 := { stood := { row := wholeRangeUptoRow, standIns := [], harness := (true, "49a01e8b5839b455eef4a38a762291d5a78355a072567e801bd8ae9cbf8a34ee"), looks := false }, kinds := [], alts := [], goes := true, laidByText := true, laidKinds := [.data, .data, .data, .data, .data, .data], laidTests := true, laidLooks := .later }
def WholeRangeUptoCardSaid : Prop := Claim7.holds Tryz.pinned (.plain (OpenSpec.upto wholeRangeSpec)) wholeRangeUptoCard

/-- THE SECOND FORM's CARD OF 'almanackertop.WholeOmer'. -/
def wholeOmerUptoCard : Claim7 := { stood := { row := wholeOmerUptoRow, standIns := [], harness := (true, "49a01e8b5839b455eef4a38a762291d5a78355a072567e801bd8ae9cbf8a34ee"), looks := false }, kinds := [], alts := [], goes := true, laidByText := true, laidKinds := [.data, .data, .data, .data, .data, .data], laidTests := true, laidLooks := .later }
def WholeOmerUptoCardSaid : Prop := Claim7.holds Tryz.pinned (.plain (OpenSpec.upto wholeOmerSpec)) wholeOmerUptoCard
end Rows
end Go.Proofs.YtankichdmlkfmaaGreatDoor
