/-
  DERIVED. GIVEN WITH THE SEED: THE CARDS: each row of YtbmcpeccofadhaaDoorRows.lean that lists a variable, with what it lists TIED to the program's text (the seventh form; the later family's looks); each row that meets fmt, with fmt's text TOLD by the authors' own Lean function (tested against real Go, not proved from fmt's source: count such statements apart). THE CARD IS WHAT COUNTS. Prove the row's statement (the work); the ties are given (YtbmcpeccofadhaaDoorTie.lean); close each card by the builder's one call (the guide's Derived/Test/ToyasCard.lean, 'card_holds'). Laid BY PROGRAM, IN A SANDBOX (cutbox-door.mjs). By AI agents, Wed Nov 11 2026. No macro, syntax, notation, axiom, sorry.
-/
import Derived.Test.YtbmcpeccofadhaaDoorRows
import GoSem.ClaimSeven
namespace Go.Proofs.YtbmcpeccofadhaaDoor
namespace Rows

/-- THE TIED CARD OF 'almanackerlaw22.SpecialDays'. -/
def specialDaysCard : Claim7 := { stood := { row := specialDaysRow, standIns := [], harness := (true, "16f5c54d19fbb3b6903ede18213274964ce3fa729689152698d514bcf191300c"), looks := false }, kinds := [], alts := [], laidByText := true, laidKinds := [.data, .data], laidTests := true, laidLooks := .later }
def SpecialDaysCardSaid : Prop := Claim7.holds Tryd.pinned (.plain (OpenSpec.ofChange specialDaysSpec)) specialDaysCard

/-- THE TIED CARD OF 'almanackerlaw22.SpecialGaps'. -/
def specialGapsCard : Claim7 := { stood := { row := specialGapsRow, standIns := [], harness := (true, "16f5c54d19fbb3b6903ede18213274964ce3fa729689152698d514bcf191300c"), looks := false }, kinds := [], alts := [], laidByText := true, laidKinds := [.data, .data], laidTests := true, laidLooks := .later }
def SpecialGapsCardSaid : Prop := Claim7.holds Tryd.pinned (.plain (OpenSpec.ofChange specialGapsSpec)) specialGapsCard

/-- THE TIED CARD OF 'almanackerlaw27.CountTells'. -/
def countTellsCard : Claim7 := { stood := { row := countTellsRow, standIns := [], harness := (true, "16f5c54d19fbb3b6903ede18213274964ce3fa729689152698d514bcf191300c"), looks := false }, kinds := [], alts := [], laidByText := true, laidKinds := [.data, .data], laidTests := true, laidLooks := .later }
def CountTellsCardSaid : Prop := Claim7.holds Tryd.pinned (.plain (OpenSpec.ofChange countTellsSpec)) countTellsCard

/-- THE TIED CARD OF 'almanackerlaw27.CountDays'. -/
def countDaysCard : Claim7 := { stood := { row := countDaysRow, standIns := [], harness := (true, "16f5c54d19fbb3b6903ede18213274964ce3fa729689152698d514bcf191300c"), looks := false }, kinds := [], alts := [], laidByText := true, laidKinds := [.data, .data], laidTests := true, laidLooks := .later }
def CountDaysCardSaid : Prop := Claim7.holds Tryd.pinned (.plain (OpenSpec.ofChange countDaysSpec)) countDaysCard

/-- THE SECOND FORM's CARD OF 'almanackerlaw22.SpecialDays'. -/
def specialDaysUptoCard : Claim7 := { stood := { row := specialDaysUptoRow, standIns := [], harness := (true, "16f5c54d19fbb3b6903ede18213274964ce3fa729689152698d514bcf191300c"), looks := false }, kinds := [], alts := [], laidByText := true, laidKinds := [.data, .data], laidTests := true, laidLooks := .later }
def SpecialDaysUptoCardSaid : Prop := Claim7.holds Tryd.pinned (.plain (OpenSpec.upto specialDaysSpec)) specialDaysUptoCard

/-- THE SECOND FORM's CARD OF 'almanackerlaw22.SpecialGaps'. -/
def specialGapsUptoCard : Claim7 := { stood := { row := specialGapsUptoRow, standIns := [], harness := (true, "16f5c54d19fbb3b6903ede18213274964ce3fa729689152698d514bcf191300c"), looks := false }, kinds := [], alts := [], laidByText := true, laidKinds := [.data, .data], laidTests := true, laidLooks := .later }
def SpecialGapsUptoCardSaid : Prop := Claim7.holds Tryd.pinned (.plain (OpenSpec.upto specialGapsSpec)) specialGapsUptoCard

/-- THE SECOND FORM's CARD OF 'almanackerlaw27.CountTells'. -/
def countTellsUptoCard : Claim7 := { stood := { row := countTellsUptoRow, standIns := [], harness := (true, "16f5c54d19fbb3b6903ede18213274964ce3fa729689152698d514bcf191300c"), looks := false }, kinds := [], alts := [], laidByText := true, laidKinds := [.data, .data], laidTests := true, laidLooks := .later }
def CountTellsUptoCardSaid : Prop := Claim7.holds Tryd.pinned (.plain (OpenSpec.upto countTellsSpec)) countTellsUptoCard

/-- THE SECOND FORM's CARD OF 'almanackerlaw27.CountDays'. -/
def countDaysUptoCard : Claim7 := { stood := { row := countDaysUptoRow, standIns := [], harness := (true, "16f5c54d19fbb3b6903ede18213274964ce3fa729689152698d514bcf191300c"), looks := false }, kinds := [], alts := [], laidByText := true, laidKinds := [.data, .data], laidTests := true, laidLooks := .later }
def CountDaysUptoCardSaid : Prop := Claim7.holds Tryd.pinned (.plain (OpenSpec.upto countDaysSpec)) countDaysUptoCard
end Rows
end Go.Proofs.YtbmcpeccofadhaaDoor
