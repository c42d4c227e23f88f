/-
  DERIVED. GIVEN WITH THE SEED: THE CARDS: each row of YtemkngkaaabghaaDoorRows.lean that lists a variable, with what it lists TIED to the program's text (the seventh form; the later family's looks); each row that meets fmt, with fmt's text TOLD by the authors' own Lean function (tested against real Go, not proved from fmt's source: count such statements apart). THE CARD IS WHAT COUNTS. Prove the row's statement (the work); the ties are given (YtemkngkaaabghaaDoorTie.lean); close each card by the builder's one call (the guide's Derived/Test/ToyasCard.lean, 'card_holds'). Laid BY PROGRAM, IN A SANDBOX (cutbox-door.mjs). By AI agents, Wed Nov 11 2026. No macro, syntax, notation, axiom, sorry.
-/
import Derived.Test.YtemkngkaaabghaaDoorRows
import GoSem.ClaimSeven
namespace Go.Proofs.YtemkngkaaabghaaDoor
namespace Rows

/-- THE TIED CARD OF 'almanackerlaw07.KeviahTells'. -/
def keviahTellsCard : Claim7 := { stood := { row := keviahTellsRow, standIns := [], harness := (true, "06e32c5e6ed3b6397ea13cbd1ffb9bde769f4160387e29ff113916f1a4149a87"), looks := false }, kinds := [], alts := [], laidByText := true, laidKinds := [.data], laidTests := true, laidLooks := .later }
def KeviahTellsCardSaid : Prop := Claim7.holds Tryd.pinned (.plain (OpenSpec.ofChange keviahTellsSpec)) keviahTellsCard

/-- THE TIED CARD OF 'almanackerlaw07.KeviahYears'. -/
def keviahYearsCard : Claim7 := { stood := { row := keviahYearsRow, standIns := [], harness := (true, "06e32c5e6ed3b6397ea13cbd1ffb9bde769f4160387e29ff113916f1a4149a87"), looks := false }, kinds := [], alts := [], laidByText := true, laidKinds := [.data], laidTests := true, laidLooks := .later }
def KeviahYearsCardSaid : Prop := Claim7.holds Tryd.pinned (.plain (OpenSpec.ofChange keviahYearsSpec)) keviahYearsCard

/-- THE TIED CARD OF 'almanackerlaw07.KeviahNumbers'. -/
def keviahNumbersCard : Claim7 := { stood := { row := keviahNumbersRow, standIns := [], harness := (true, "06e32c5e6ed3b6397ea13cbd1ffb9bde769f4160387e29ff113916f1a4149a87"), looks := false }, kinds := [], alts := [], laidByText := true, laidKinds := [.data], laidTests := true, laidLooks := .later }
def KeviahNumbersCardSaid : Prop := Claim7.holds Tryd.pinned (.plain (OpenSpec.ofChange keviahNumbersSpec)) keviahNumbersCard

/-- THE TIED CARD OF 'almanackerlaw08.MonthTells'. -/
def monthTellsCard : Claim7 := { stood := { row := monthTellsRow, standIns := [], harness := (true, "06e32c5e6ed3b6397ea13cbd1ffb9bde769f4160387e29ff113916f1a4149a87"), looks := false }, kinds := [], alts := [], laidByText := true, laidKinds := [.data, .data], laidTests := true, laidLooks := .later }
def MonthTellsCardSaid : Prop := Claim7.holds Tryd.pinned (.plain (OpenSpec.ofChange monthTellsSpec)) monthTellsCard

/-- THE TIED CARD OF 'almanackerlaw08.MonthSums'. -/
def monthSumsCard : Claim7 := { stood := { row := monthSumsRow, standIns := [], harness := (true, "06e32c5e6ed3b6397ea13cbd1ffb9bde769f4160387e29ff113916f1a4149a87"), looks := false }, kinds := [], alts := [], laidByText := true, laidKinds := [.data, .data], laidTests := true, laidLooks := .later }
def MonthSumsCardSaid : Prop := Claim7.holds Tryd.pinned (.plain (OpenSpec.ofChange monthSumsSpec)) monthSumsCard

/-- THE SECOND FORM's CARD OF 'almanackerlaw07.KeviahTells'. -/
def keviahTellsUptoCard : Claim7 := { stood := { row := keviahTellsUptoRow, standIns := [], harness := (true, "06e32c5e6ed3b6397ea13cbd1ffb9bde769f4160387e29ff113916f1a4149a87"), looks := false }, kinds := [], alts := [], laidByText := true, laidKinds := [.data], laidTests := true, laidLooks := .later }
def KeviahTellsUptoCardSaid : Prop := Claim7.holds Tryd.pinned (.plain (OpenSpec.upto keviahTellsSpec)) keviahTellsUptoCard

/-- THE SECOND FORM's CARD OF 'almanackerlaw07.KeviahYears'. -/
def keviahYearsUptoCard : Claim7 := { stood := { row := keviahYearsUptoRow, standIns := [], harness := (true, "06e32c5e6ed3b6397ea13cbd1ffb9bde769f4160387e29ff113916f1a4149a87"), looks := false }, kinds := [], alts := [], laidByText := true, laidKinds := [.data], laidTests := true, laidLooks := .later }
def KeviahYearsUptoCardSaid : Prop := Claim7.holds Tryd.pinned (.plain (OpenSpec.upto keviahYearsSpec)) keviahYearsUptoCard

/-- THE SECOND FORM's CARD OF 'almanackerlaw07.KeviahNumbers'. -/
def keviahNumbersUptoCard : Claim7 := { stood := { row := keviahNumbersUptoRow, standIns := [], harness := (true, "06e32c5e6ed3b6397ea13cbd1ffb9bde769f4160387e29ff113916f1a4149a87"), looks := false }, kinds := [], alts := [], laidByText := true, laidKinds := [.data], laidTests := true, laidLooks := .later }
def KeviahNumbersUptoCardSaid : Prop := Claim7.holds Tryd.pinned (.plain (OpenSpec.upto keviahNumbersSpec)) keviahNumbersUptoCard

/-- THE SECOND FORM's CARD OF 'almanackerlaw08.MonthTells'. -/
def monthTellsUptoCard : Claim7 := { stood := { row := monthTellsUptoRow, standIns := [], harness := (true, "06e32c5e6ed3b6397ea13cbd1ffb9bde769f4160387e29ff113916f1a4149a87"), looks := false }, kinds := [], alts := [], laidByText := true, laidKinds := [.data, .data], laidTests := true, laidLooks := .later }
def MonthTellsUptoCardSaid : Prop := Claim7.holds Tryd.pinned (.plain (OpenSpec.upto monthTellsSpec)) monthTellsUptoCard

/-- THE SECOND FORM's CARD OF 'almanackerlaw08.MonthSums'. -/
def monthSumsUptoCard : Claim7 := { stood := { row := monthSumsUptoRow, standIns := [], harness := (true, "06e32c5e6ed3b6397ea13cbd1ffb9bde769f4160387e29ff113916f1a4149a87"), looks := false }, kinds := [], alts := [], laidByText := true, laidKinds := [.data, .data], laidTests := true, laidLooks := .later }
def MonthSumsUptoCardSaid : Prop := Claim7.holds Tryd.pinned (.plain (OpenSpec.upto monthSumsSpec)) monthSumsUptoCard
end Rows
end Go.Proofs.YtemkngkaaabghaaDoor
