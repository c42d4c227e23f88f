/-
  DERIVED. GIVEN WITH THE SEED: THE CARDS: each row of YtgojeobnoebnlaaGreatDoorRows.lean that lists a variable, with what it lists TIED to the program's text (the seventh form; the later family's looks); each row that meets fmt, with fmt's text TOLD by the authors' own Lean function (tested against real Go, not proved from fmt's source: count such statements apart). THE CARD IS WHAT COUNTS. Prove the row's statement (the work); the ties are given (YtgojeobnoebnlaaGreatDoorTie.lean); close each card by the builder's one call (the guide's Derived/Test/ToyasCard.lean, 'card_holds'). Laid BY PROGRAM, IN A SANDBOX (cutbox-door.mjs). By AI agents, Wed Nov 11 2026. No macro, syntax, notation, axiom, sorry.
-/
import Derived.Test.YtgojeobnoebnlaaGreatDoorRows
import GoSem.ClaimSeven
namespace Go.Proofs.YtgojeobnoebnlaaGreatDoor
namespace Rows

/-- THE TIED CARD OF 'almanackertop.WholeFeasts'. -/
def wholeFeastsCard : Claim7 := { stood := { row := wholeFeastsRow, standIns := [], harness := (true, "f3795a399b1e1d6b5a1f75c29711a8df966eea30836658a2e2d8e27c93c0fc66"), looks := false }, kinds := [], alts := [], goes := true, laidByText := true, laidKinds := [.data, .data, .data, .data, .data, .data], laidTests := true, laidLooks := .later }
def WholeFeastsCardSaid : Prop := Claim7.holds Tryz.pinned (.plain (OpenSpec.ofChange wholeFeastsSpec)) wholeFeastsCard

/-- THE TIED CARD OF 'almanackertop.WholeTorah'. -/
def wholeTorahCard : Claim7 := { stood := { row := wholeTorahRow, standIns := [], harness := (true, "f3795a399b1e1d6b5a1f75c29711a8df966eea30836658a2e2d8e27c93c0fc66"), looks := false }, kinds := [], alts := [], goes := true, laidByText := true, laidKinds := [.data, .data, .data, .data, .data, .data, .data], laidTests := true, laidLooks := .later }
def WholeTorahCardSaid : Prop := Claim7.holds Tryz.pinned (.plain (OpenSpec.ofChange wholeTorahSpec)) wholeTorahCard

/-- THE SECOND FORM's CARD OF 'almanackertop.WholeFeasts'. -/
def wholeFeastsUptoCard : Claim7 := { stood := { row := wholeFeastsUptoRow, standIns := [], harness := (true, "f3795a399b1e1d6b5a1f75c29711a8df966eea30836658a2e2d8e27c93c0fc66"), looks := false }, kinds := [], alts := [], goes := true, laidByText := true, laidKinds := [.data, .data, .data, .data, .data, .data], laidTests := true, laidLooks := .later }
def WholeFeastsUptoCardSaid : Prop := Claim7.holds Tryz.pinned (.plain (OpenSpec.upto wholeFeastsSpec)) wholeFeastsUptoCard

/-- THE SECOND FORM's CARD OF 'almanackertop.WholeTorah'. -/
def wholeTorahUptoCard : Claim7 := { stood := { row := wholeTorahUptoRow, standIns := [], harness := (true, "f3795a399b1e1d6b5a1f75c29711a8df966eea30836658a2e2d8e27c93c0fc66"), looks := false }, kinds := [], alts := [], goes := true, laidByText := true, laidKinds := [.data, .data, .data, .data, .data, .data, .data], laidTests := true, laidLooks := .later }
def WholeTorahUptoCardSaid : Prop := Claim7.holds Tryz.pinned (.plain (OpenSpec.upto wholeTorahSpec)) wholeTorahUptoCard
end Rows
end Go.Proofs.YtgojeobnoebnlaaGreatDoor
