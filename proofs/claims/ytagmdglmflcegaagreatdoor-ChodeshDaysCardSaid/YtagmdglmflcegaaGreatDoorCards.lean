/-
  DERIVED. GIVEN WITH THE SEED: THE CARDS: each row of YtagmdglmflcegaaGreatDoorRows.lean that lists a variable, with what it lists TIED to the program's text (the seventh form; the later family's looks); each row that meets fmt, with fmt's text TOLD by the authors' own Lean function (tested against real Go, not proved from fmt's source: count such statements apart). THE CARD IS WHAT COUNTS. Prove the row's statement (the work); the ties are given (YtagmdglmflcegaaGreatDoorTie.lean); close each card by the builder's one call (the guide's Derived/Test/ToyasCard.lean, 'card_holds'). Laid BY PROGRAM, IN A SANDBOX (cutbox-door.mjs). By AI agents, Wed Nov 11 2026. No macro, syntax, notation, axiom, sorry.
-/
import Derived.Test.YtagmdglmflcegaaGreatDoorRows
import GoSem.ClaimSeven
namespace Go.Proofs.YtagmdglmflcegaaGreatDoor
namespace Rows

/-- THE TIED CARD OF 'almanackerlaw14.NameTells'. -/
def nameTellsCard : Claim7 := { stood := { row := nameTellsRow, standIns := [], harness := (true, "303e471e36216c99e96b1a2c9b89816282547a8ead3887e10900ebbee31985b8"), looks := false }, kinds := [], alts := [], laidByText := true, laidKinds := [.data, .data, .data, .data, .data, .data], laidTests := true, laidLooks := .later }
def NameTellsCardSaid : Prop := Claim7.holds Tryz.pinned (.plain (OpenSpec.ofChange nameTellsSpec)) nameTellsCard

/-- THE TIED CARD OF 'almanackerlaw21.ChodeshTells'. -/
def chodeshTellsCard : Claim7 := { stood := { row := chodeshTellsRow, standIns := [], harness := (true, "303e471e36216c99e96b1a2c9b89816282547a8ead3887e10900ebbee31985b8"), looks := false }, kinds := [], alts := [], laidByText := true, laidKinds := [.data, .data], laidTests := true, laidLooks := .later }
def ChodeshTellsCardSaid : Prop := Claim7.holds Tryz.pinned (.plain (OpenSpec.ofChange chodeshTellsSpec)) chodeshTellsCard

/-- THE TIED CARD OF 'almanackerlaw21.ChodeshDays'. -/
def chodeshDaysCard : Claim7 := { stood := { row := chodeshDaysRow, standIns := [], harness := (true, "303e471e36216c99e96b1a2c9b89816282547a8ead3887e10900ebbee31985b8"), looks := false }, kinds := [], alts := [], laidByText := true, laidKinds := [.data, .data], laidTests := true, laidLooks := .later }
def ChodeshDaysCardSaid : Prop := Claim7.holds Tryz.pinned (.plain (OpenSpec.ofChange chodeshDaysSpec)) chodeshDaysCard

/-- THE TIED CARD OF 'almanackerlaw21.ChodeshOmer'. -/
def chodeshOmerCard : Claim7 := { stood := { row := chodeshOmerRow, standIns := [], harness := (true, "303e471e36216c99e96b1a2c9b89816282547a8ead3887e10900ebbee31985b8"), looks := false }, kinds := [], alts := [], laidByText := true, laidKinds := [.data, .data], laidTests := true, laidLooks := .later }
def ChodeshOmerCardSaid : Prop := Claim7.holds Tryz.pinned (.plain (OpenSpec.ofChange chodeshOmerSpec)) chodeshOmerCard

/-- THE TIED CARD OF 'almanackerlaw22.SpecialTells'. -/
def specialTellsCard : Claim7 := { stood := { row := specialTellsRow, standIns := [], harness := (true, "303e471e36216c99e96b1a2c9b89816282547a8ead3887e10900ebbee31985b8"), looks := false }, kinds := [], alts := [], laidByText := true, laidKinds := [.data, .data], laidTests := true, laidLooks := .later }
def SpecialTellsCardSaid : Prop := Claim7.holds Tryz.pinned (.plain (OpenSpec.ofChange specialTellsSpec)) specialTellsCard

/-- THE SECOND FORM's CARD OF 'almanackerlaw14.NameTells'. -/
def nameTellsUptoCard : Claim7 := { stood := { row := nameTellsUptoRow, standIns := [], harness := (true, "303e471e36216c99e96b1a2c9b89816282547a8ead3887e10900ebbee31985b8"), looks := false }, kinds := [], alts := [], laidByText := true, laidKinds := [.data, .data, .data, .data, .data, .data], laidTests := true, laidLooks := .later }
def NameTellsUptoCardSaid : Prop := Claim7.holds Tryz.pinned (.plain (OpenSpec.upto nameTellsSpec)) nameTellsUptoCard

/-- THE SECOND FORM's CARD OF 'almanackerlaw21.ChodeshTells'. -/
def chodeshTellsUptoCard : Claim7 := { stood := { row := chodeshTellsUptoRow, standIns := [], harness := (true, "303e471e36216c99e96b1a2c9b89816282547a8ead3887e10900ebbee31985b8"), looks := false }, kinds := [], alts := [], laidByText := true, laidKinds := [.data, .data], laidTests := true, laidLooks := .later }
def ChodeshTellsUptoCardSaid : Prop := Claim7.holds Tryz.pinned (.plain (OpenSpec.upto chodeshTellsSpec)) chodeshTellsUptoCard

/-- THE SECOND FORM's CARD OF 'almanackerlaw21.ChodeshDays'. -/
def chodeshDaysUptoCard : Claim7 := { stood := { row := chodeshDaysUptoRow, standIns := [], harness := (true, "303e471e36216c99e96b1a2c9b89816282547a8ead3887e10900ebbee31985b8"), looks := false }, kinds := [], alts := [], laidByText := true, laidKinds := [.data, .data], laidTests := true, laidLooks := .later }
def ChodeshDaysUptoCardSaid : Prop := Claim7.holds Tryz.pinned (.plain (OpenSpec.upto chodeshDaysSpec)) chodeshDaysUptoCard

/-- THE SECOND FORM's CARD OF 'almanackerlaw21.ChodeshOmer'. -/
def chodeshOmerUptoCard : Claim7 := { stood := { row := chodeshOmerUptoRow, standIns := [], harness := (true, "303e471e36216c99e96b1a2c9b89816282547a8ead3887e10900ebbee31985b8"), looks := false }, kinds := [], alts := [], laidByText := true, laidKinds := [.data, .data], laidTests := true, laidLooks := .later }
def ChodeshOmerUptoCardSaid : Prop := Claim7.holds Tryz.pinned (.plain (OpenSpec.upto chodeshOmerSpec)) chodeshOmerUptoCard

/-- THE SECOND FORM's CARD OF 'almanackerlaw22.SpecialTells'. -/
def specialTellsUptoCard : Claim7 := { stood := { row := specialTellsUptoRow, standIns := [], harness := (true, "303e471e36216c99e96b1a2c9b89816282547a8ead3887e10900ebbee31985b8"), looks := false }, kinds := [], alts := [], laidByText := true, laidKinds := [.data, .data], laidTests := true, laidLooks := .later }
def SpecialTellsUptoCardSaid : Prop := Claim7.holds Tryz.pinned (.plain (OpenSpec.upto specialTellsSpec)) specialTellsUptoCard
end Rows
end Go.Proofs.YtagmdglmflcegaaGreatDoor
