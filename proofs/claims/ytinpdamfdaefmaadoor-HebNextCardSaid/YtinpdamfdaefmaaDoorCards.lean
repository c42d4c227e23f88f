/-
  DERIVED. GIVEN WITH THE SEED: THE CARDS: each row of YtinpdamfdaefmaaDoorRows.lean that lists a variable, with what it lists TIED to the program's text (the seventh form; the later family's looks); each row that meets fmt, with fmt's text TOLD by the authors' own Lean function (tested against real Go, not proved from fmt's source: count such statements apart). THE CARD IS WHAT COUNTS. Prove the row's statement (the work); the ties are given (YtinpdamfdaefmaaDoorTie.lean); close each card by the builder's one call (the guide's Derived/Test/ToyasCard.lean, 'card_holds'). Laid BY PROGRAM, IN A SANDBOX (cutbox-door.mjs). By AI agents, Wed Nov 11 2026. No macro, syntax, notation, axiom, sorry.
-/
import Derived.Test.YtinpdamfdaefmaaDoorRows
import GoSem.ClaimSeven
namespace Go.Proofs.YtinpdamfdaefmaaDoor
namespace Rows

/-- THE TIED CARD OF 'almanackerlaw10.HebTells'. -/
def hebTellsCard : Claim7 := { stood := { row := hebTellsRow, standIns := [], harness := (true, "36087aafabaf9538d6dd51a6396070c2c1b65f1a297d55514318e57cf6ea0ee5"), looks := false }, kinds := [], alts := [], laidByText := true, laidKinds := [.data, .data], laidTests := true, laidLooks := .later }
def HebTellsCardSaid : Prop := Claim7.holds Tryd.pinned (.plain (OpenSpec.ofChange hebTellsSpec)) hebTellsCard

/-- THE TIED CARD OF 'almanackerlaw10.HebBack'. -/
def hebBackCard : Claim7 := { stood := { row := hebBackRow, standIns := [], harness := (true, "36087aafabaf9538d6dd51a6396070c2c1b65f1a297d55514318e57cf6ea0ee5"), looks := false }, kinds := [], alts := [], laidByText := true, laidKinds := [.data, .data], laidTests := true, laidLooks := .later }
def HebBackCardSaid : Prop := Claim7.holds Tryd.pinned (.plain (OpenSpec.ofChange hebBackSpec)) hebBackCard

/-- THE TIED CARD OF 'almanackerlaw10.HebNext'. -/
def hebNextCard : Claim7 := { stood := { row := hebNextRow, standIns := [], harness := (true, "36087aafabaf9538d6dd51a6396070c2c1b65f1a297d55514318e57cf6ea0ee5"), looks := false }, kinds := [], alts := [], laidByText := true, laidKinds := [.data, .data], laidTests := true, laidLooks := .later }
def HebNextCardSaid : Prop := Claim7.holds Tryd.pinned (.plain (OpenSpec.ofChange hebNextSpec)) hebNextCard

/-- THE TIED CARD OF 'almanackerlaw10.HebMonths'. -/
def hebMonthsCard : Claim7 := { stood := { row := hebMonthsRow, standIns := [], harness := (true, "36087aafabaf9538d6dd51a6396070c2c1b65f1a297d55514318e57cf6ea0ee5"), looks := false }, kinds := [], alts := [], laidByText := true, laidKinds := [.data, .data], laidTests := true, laidLooks := .later }
def HebMonthsCardSaid : Prop := Claim7.holds Tryd.pinned (.plain (OpenSpec.ofChange hebMonthsSpec)) hebMonthsCard

/-- THE TIED CARD OF 'almanackerlaw11.GregTells'. -/
def gregTellsCard : Claim7 := { stood := { row := gregTellsRow, standIns := [], harness := (true, "36087aafabaf9538d6dd51a6396070c2c1b65f1a297d55514318e57cf6ea0ee5"), looks := false }, kinds := [], alts := [], laidByText := true, laidKinds := [.data], laidTests := true, laidLooks := .later }
def GregTellsCardSaid : Prop := Claim7.holds Tryd.pinned (.plain (OpenSpec.ofChange gregTellsSpec)) gregTellsCard

/-- THE TIED CARD OF 'almanackerlaw11.GregBack'. -/
def gregBackCard : Claim7 := { stood := { row := gregBackRow, standIns := [], harness := (true, "36087aafabaf9538d6dd51a6396070c2c1b65f1a297d55514318e57cf6ea0ee5"), looks := false }, kinds := [], alts := [], laidByText := true, laidKinds := [.data], laidTests := true, laidLooks := .later }
def GregBackCardSaid : Prop := Claim7.holds Tryd.pinned (.plain (OpenSpec.ofChange gregBackSpec)) gregBackCard

/-- THE TIED CARD OF 'almanackerlaw11.GregNext'. -/
def gregNextCard : Claim7 := { stood := { row := gregNextRow, standIns := [], harness := (true, "36087aafabaf9538d6dd51a6396070c2c1b65f1a297d55514318e57cf6ea0ee5"), looks := false }, kinds := [], alts := [], laidByText := true, laidKinds := [.data], laidTests := true, laidLooks := .later }
def GregNextCardSaid : Prop := Claim7.holds Tryd.pinned (.plain (OpenSpec.ofChange gregNextSpec)) gregNextCard

/-- THE TIED CARD OF 'almanackerlaw11.GregRound'. -/
def gregRoundCard : Claim7 := { stood := { row := gregRoundRow, standIns := [], harness := (true, "36087aafabaf9538d6dd51a6396070c2c1b65f1a297d55514318e57cf6ea0ee5"), looks := false }, kinds := [], alts := [], laidByText := true, laidKinds := [.data], laidTests := true, laidLooks := .later }
def GregRoundCardSaid : Prop := Claim7.holds Tryd.pinned (.plain (OpenSpec.ofChange gregRoundSpec)) gregRoundCard

/-- THE SECOND FORM's CARD OF 'almanackerlaw10.HebTells'. -/
def hebTellsUptoCard : Claim7 := { stood := { row := hebTellsUptoRow, standIns := [], harness := (true, "36087aafabaf9538d6dd51a6396070c2c1b65f1a297d55514318e57cf6ea0ee5"), looks := false }, kinds := [], alts := [], laidByText := true, laidKinds := [.data, .data], laidTests := true, laidLooks := .later }
def HebTellsUptoCardSaid : Prop := Claim7.holds Tryd.pinned (.plain (OpenSpec.upto hebTellsSpec)) hebTellsUptoCard

/-- THE SECOND FORM's CARD OF 'almanackerlaw10.HebBack'. -/
def hebBackUptoCard : Claim7 := { stood := { row := hebBackUptoRow, standIns := [], harness := (true, "36087aafabaf9538d6dd51a6396070c2c1b65f1a297d55514318e57cf6ea0ee5"), looks := false }, kinds := [], alts := [], laidByText := true, laidKinds := [.data, .data], laidTests := true, laidLooks := .later }
def HebBackUptoCardSaid : Prop := Claim7.holds Tryd.pinned (.plain (OpenSpec.upto hebBackSpec)) hebBackUptoCard

/-- THE SECOND FORM's CARD OF 'almanackerlaw10.HebNext'. -/
def hebNextUptoCard : Claim7 := { stood := { row := hebNextUptoRow, standIns := [], harness := (true, "36087aafabaf9538d6dd51a6396070c2c1b65f1a297d55514318e57cf6ea0ee5"), looks := false }, kinds := [], alts := [], laidByText := true, laidKinds := [.data, .data], laidTests := true, laidLooks := .later }
def HebNextUptoCardSaid : Prop := Claim7.holds Tryd.pinned (.plain (OpenSpec.upto hebNextSpec)) hebNextUptoCard

/-- THE SECOND FORM's CARD OF 'almanackerlaw10.HebMonths'. -/
def hebMonthsUptoCard : Claim7 := { stood := { row := hebMonthsUptoRow, standIns := [], harness := (true, "36087aafabaf9538d6dd51a6396070c2c1b65f1a297d55514318e57cf6ea0ee5"), looks := false }, kinds := [], alts := [], laidByText := true, laidKinds := [.data, .data], laidTests := true, laidLooks := .later }
def HebMonthsUptoCardSaid : Prop := Claim7.holds Tryd.pinned (.plain (OpenSpec.upto hebMonthsSpec)) hebMonthsUptoCard

/-- THE SECOND FORM's CARD OF 'almanackerlaw11.GregTells'. -/
def gregTellsUptoCard : Claim7 := { stood := { row := gregTellsUptoRow, standIns := [], harness := (true, "36087aafabaf9538d6dd51a6396070c2c1b65f1a297d55514318e57cf6ea0ee5"), looks := false }, kinds := [], alts := [], laidByText := true, laidKinds := [.data], laidTests := true, laidLooks := .later }
def GregTellsUptoCardSaid : Prop := Claim7.holds Tryd.pinned (.plain (OpenSpec.upto gregTellsSpec)) gregTellsUptoCard

/-- THE SECOND FORM's CARD OF 'almanackerlaw11.GregBack'. -/
def gregBackUptoCard : Claim7 := { stood := { row := gregBackUptoRow, standIns := [], harness := (true, "36087aafabaf9538d6dd51a6396070c2c1b65f1a297d55514318e57cf6ea0ee5"), looks := false }, kinds := [], alts := [], laidByText := true, laidKinds := [.data], laidTests := true, laidLooks := .later }
def GregBackUptoCardSaid : Prop := Claim7.holds Tryd.pinned (.plain (OpenSpec.upto gregBackSpec)) gregBackUptoCard

/-- THE SECOND FORM's CARD OF 'almanackerlaw11.GregNext'. -/
def gregNextUptoCard : Claim7 := { stood := { row := gregNextUptoRow, standIns := [], harness := (true, "36087aafabaf9538d6dd51a6396070c2c1b65f1a297d55514318e57cf6ea0ee5"), looks := false }, kinds := [], alts := [], laidByText := true, laidKinds := [.data], laidTests := true, laidLooks := .later }
def GregNextUptoCardSaid : Prop := Claim7.holds Tryd.pinned (.plain (OpenSpec.upto gregNextSpec)) gregNextUptoCard

/-- THE SECOND FORM's CARD OF 'almanackerlaw11.GregRound'. -/
def gregRoundUptoCard : Claim7 := { stood := { row := gregRoundUptoRow, standIns := [], harness := (true, "36087aafabaf9538d6dd51a6396070c2c1b65f1a297d55514318e57cf6ea0ee5"), looks := false }, kinds := [], alts := [], laidByText := true, laidKinds := [.data], laidTests := true, laidLooks := .later }
def GregRoundUptoCardSaid : Prop := Claim7.holds Tryd.pinned (.plain (OpenSpec.upto gregRoundSpec)) gregRoundUptoCard
end Rows
end Go.Proofs.YtinpdamfdaefmaaDoor
