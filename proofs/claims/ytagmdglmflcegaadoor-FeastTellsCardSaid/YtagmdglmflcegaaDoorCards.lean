/-
  DERIVED. GIVEN WITH THE SEED: THE CARDS: each row of YtagmdglmflcegaaDoorRows.lean that lists a variable, with what it lists TIED to the program's text (the seventh form; the later family's looks); each row that meets fmt, with fmt's text TOLD by the authors' own Lean function (tested against real Go, not proved from fmt's source: count such statements apart). THE CARD IS WHAT COUNTS. Prove the row's statement (the work); the ties are given (YtagmdglmflcegaaDoorTie.lean); close each card by the builder's one call (the guide's Derived/Test/ToyasCard.lean, 'card_holds'). Laid BY PROGRAM, IN A SANDBOX (cutbox-door.mjs). By AI agents, Wed Nov 11 2026. No macro, syntax, notation, axiom, sorry.
-/
import Derived.Test.YtagmdglmflcegaaDoorRows
import GoSem.ClaimSeven
namespace Go.Proofs.YtagmdglmflcegaaDoor
namespace Rows

/-- THE TIED CARD OF 'almanackerlaw19.FeastTells'. -/
def feastTellsCard : Claim7 := { stood := { row := feastTellsRow, standIns := [], harness := (true, "f174bd63d1ec20169184b192923cd5342025ccaf01f3a8989d43c7c92cfc8353"), looks := false }, kinds := [], alts := [], laidByText := true, laidKinds := [.data, .data, .data], laidTests := true, laidLooks := .later }
def FeastTellsCardSaid : Prop := Claim7.holds Tryd.pinned (.plain (OpenSpec.ofChange feastTellsSpec)) feastTellsCard

/-- THE TIED CARD OF 'almanackerlaw19.FeastDays'. -/
def feastDaysCard : Claim7 := { stood := { row := feastDaysRow, standIns := [], harness := (true, "f174bd63d1ec20169184b192923cd5342025ccaf01f3a8989d43c7c92cfc8353"), looks := false }, kinds := [], alts := [], laidByText := true, laidKinds := [.data, .data, .data], laidTests := true, laidLooks := .later }
def FeastDaysCardSaid : Prop := Claim7.holds Tryd.pinned (.plain (OpenSpec.ofChange feastDaysSpec)) feastDaysCard

/-- THE TIED CARD OF 'almanackerlaw19.FeastPlaces'. -/
def feastPlacesCard : Claim7 := { stood := { row := feastPlacesRow, standIns := [], harness := (true, "f174bd63d1ec20169184b192923cd5342025ccaf01f3a8989d43c7c92cfc8353"), looks := false }, kinds := [], alts := [], laidByText := true, laidKinds := [.data, .data, .data], laidTests := true, laidLooks := .later }
def FeastPlacesCardSaid : Prop := Claim7.holds Tryd.pinned (.plain (OpenSpec.ofChange feastPlacesSpec)) feastPlacesCard

/-- THE TIED CARD OF 'almanackerlaw20.FastTells'. -/
def fastTellsCard : Claim7 := { stood := { row := fastTellsRow, standIns := [], harness := (true, "f174bd63d1ec20169184b192923cd5342025ccaf01f3a8989d43c7c92cfc8353"), looks := false }, kinds := [], alts := [], laidByText := true, laidKinds := [.data, .data, .data], laidTests := true, laidLooks := .later }
def FastTellsCardSaid : Prop := Claim7.holds Tryd.pinned (.plain (OpenSpec.ofChange fastTellsSpec)) fastTellsCard

/-- THE TIED CARD OF 'almanackerlaw20.FastSabbath'. -/
def fastSabbathCard : Claim7 := { stood := { row := fastSabbathRow, standIns := [], harness := (true, "f174bd63d1ec20169184b192923cd5342025ccaf01f3a8989d43c7c92cfc8353"), looks := false }, kinds := [], alts := [], laidByText := true, laidKinds := [.data, .data, .data], laidTests := true, laidLooks := .later }
def FastSabbathCardSaid : Prop := Claim7.holds Tryd.pinned (.plain (OpenSpec.ofChange fastSabbathSpec)) fastSabbathCard

/-- THE TIED CARD OF 'almanackerlaw22.SpecialDays'. -/
def specialDaysCard : Claim7 := { stood := { row := specialDaysRow, standIns := [], harness := (true, "f174bd63d1ec20169184b192923cd5342025ccaf01f3a8989d43c7c92cfc8353"), looks := false }, kinds := [], alts := [], laidByText := true, laidKinds := [.data, .data], laidTests := true, laidLooks := .later }
def SpecialDaysCardSaid : Prop := Claim7.holds Tryd.pinned (.plain (OpenSpec.ofChange specialDaysSpec)) specialDaysCard

/-- THE TIED CARD OF 'almanackerlaw22.SpecialGaps'. -/
def specialGapsCard : Claim7 := { stood := { row := specialGapsRow, standIns := [], harness := (true, "f174bd63d1ec20169184b192923cd5342025ccaf01f3a8989d43c7c92cfc8353"), looks := false }, kinds := [], alts := [], laidByText := true, laidKinds := [.data, .data], laidTests := true, laidLooks := .later }
def SpecialGapsCardSaid : Prop := Claim7.holds Tryd.pinned (.plain (OpenSpec.ofChange specialGapsSpec)) specialGapsCard

/-- THE TIED CARD OF 'almanackerlaw27.CountTells'. -/
def countTellsCard : Claim7 := { stood := { row := countTellsRow, standIns := [], harness := (true, "f174bd63d1ec20169184b192923cd5342025ccaf01f3a8989d43c7c92cfc8353"), looks := false }, kinds := [], alts := [], laidByText := true, laidKinds := [.data, .data], laidTests := true, laidLooks := .later }
def CountTellsCardSaid : Prop := Claim7.holds Tryd.pinned (.plain (OpenSpec.ofChange countTellsSpec)) countTellsCard

/-- THE TIED CARD OF 'almanackerlaw27.CountDays'. -/
def countDaysCard : Claim7 := { stood := { row := countDaysRow, standIns := [], harness := (true, "f174bd63d1ec20169184b192923cd5342025ccaf01f3a8989d43c7c92cfc8353"), looks := false }, kinds := [], alts := [], laidByText := true, laidKinds := [.data, .data], laidTests := true, laidLooks := .later }
def CountDaysCardSaid : Prop := Claim7.holds Tryd.pinned (.plain (OpenSpec.ofChange countDaysSpec)) countDaysCard

/-- THE SECOND FORM's CARD OF 'almanackerlaw19.FeastTells'. -/
def feastTellsUptoCard : Claim7 := { stood := { row := feastTellsUptoRow, standIns := [], harness := (true, "f174bd63d1ec20169184b192923cd5342025ccaf01f3a8989d43c7c92cfc8353"), looks := false }, kinds := [], alts := [], laidByText := true, laidKinds := [.data, .data, .data], laidTests := true, laidLooks := .later }
def FeastTellsUptoCardSaid : Prop := Claim7.holds Tryd.pinned (.plain (OpenSpec.upto feastTellsSpec)) feastTellsUptoCard

/-- THE SECOND FORM's CARD OF 'almanackerlaw19.FeastDays'. -/
def feastDaysUptoCard : Claim7 := { stood := { row := feastDaysUptoRow, standIns := [], harness := (true, "f174bd63d1ec20169184b192923cd5342025ccaf01f3a8989d43c7c92cfc8353"), looks := false }, kinds := [], alts := [], laidByText := true, laidKinds := [.data, .data, .data], laidTests := true, laidLooks := .later }
def FeastDaysUptoCardSaid : Prop := Claim7.holds Tryd.pinned (.plain (OpenSpec.upto feastDaysSpec)) feastDaysUptoCard

/-- THE SECOND FORM's CARD OF 'almanackerlaw19.FeastPlaces'. -/
def feastPlacesUptoCard : Claim7 := { stood := { row := feastPlacesUptoRow, standIns := [], harness := (true, "f174bd63d1ec20169184b192923cd5342025ccaf01f3a8989d43c7c92cfc8353"), looks := false }, kinds := [], alts := [], laidByText := true, laidKinds := [.data, .data, .data], laidTests := true, laidLooks := .later }
def FeastPlacesUptoCardSaid : Prop := Claim7.holds Tryd.pinned (.plain (OpenSpec.upto feastPlacesSpec)) feastPlacesUptoCard

/-- THE SECOND FORM's CARD OF 'almanackerlaw20.FastTells'. -/
def fastTellsUptoCard : Claim7 := { stood := { row := fastTellsUptoRow, standIns := [], harness := (true, "f174bd63d1ec20169184b192923cd5342025ccaf01f3a8989d43c7c92cfc8353"), looks := false }, kinds := [], alts := [], laidByText := true, laidKinds := [.data, .data, .data], laidTests := true, laidLooks := .later }
def FastTellsUptoCardSaid : Prop := Claim7.holds Tryd.pinned (.plain (OpenSpec.upto fastTellsSpec)) fastTellsUptoCard

/-- THE SECOND FORM's CARD OF 'almanackerlaw20.FastSabbath'. -/
def fastSabbathUptoCard : Claim7 := { stood := { row := fastSabbathUptoRow, standIns := [], harness := (true, "f174bd63d1ec20169184b192923cd5342025ccaf01f3a8989d43c7c92cfc8353"), looks := false }, kinds := [], alts := [], laidByText := true, laidKinds := [.data, .data, .data], laidTests := true, laidLooks := .later }
def FastSabbathUptoCardSaid : Prop := Claim7.holds Tryd.pinned (.plain (OpenSpec.upto fastSabbathSpec)) fastSabbathUptoCard

/-- THE SECOND FORM's CARD OF 'almanackerlaw22.SpecialDays'. -/
def specialDaysUptoCard : Claim7 := { stood := { row := specialDaysUptoRow, standIns := [], harness := (true, "f174bd63d1ec20169184b192923cd5342025ccaf01f3a8989d43c7c92cfc8353"), looks := false }, kinds := [], alts := [], laidByText := true, laidKinds := [.data, .data], laidTests := true, laidLooks := .later }
def SpecialDaysUptoCardSaid : Prop := Claim7.holds Tryd.pinned (.plain (OpenSpec.upto specialDaysSpec)) specialDaysUptoCard

/-- THE SECOND FORM's CARD OF 'almanackerlaw22.SpecialGaps'. -/
def specialGapsUptoCard : Claim7 := { stood := { row := specialGapsUptoRow, standIns := [], harness := (true, "f174bd63d1ec20169184b192923cd5342025ccaf01f3a8989d43c7c92cfc8353"), looks := false }, kinds := [], alts := [], laidByText := true, laidKinds := [.data, .data], laidTests := true, laidLooks := .later }
def SpecialGapsUptoCardSaid : Prop := Claim7.holds Tryd.pinned (.plain (OpenSpec.upto specialGapsSpec)) specialGapsUptoCard

/-- THE SECOND FORM's CARD OF 'almanackerlaw27.CountTells'. -/
def countTellsUptoCard : Claim7 := { stood := { row := countTellsUptoRow, standIns := [], harness := (true, "f174bd63d1ec20169184b192923cd5342025ccaf01f3a8989d43c7c92cfc8353"), looks := false }, kinds := [], alts := [], laidByText := true, laidKinds := [.data, .data], laidTests := true, laidLooks := .later }
def CountTellsUptoCardSaid : Prop := Claim7.holds Tryd.pinned (.plain (OpenSpec.upto countTellsSpec)) countTellsUptoCard

/-- THE SECOND FORM's CARD OF 'almanackerlaw27.CountDays'. -/
def countDaysUptoCard : Claim7 := { stood := { row := countDaysUptoRow, standIns := [], harness := (true, "f174bd63d1ec20169184b192923cd5342025ccaf01f3a8989d43c7c92cfc8353"), looks := false }, kinds := [], alts := [], laidByText := true, laidKinds := [.data, .data], laidTests := true, laidLooks := .later }
def CountDaysUptoCardSaid : Prop := Claim7.holds Tryd.pinned (.plain (OpenSpec.upto countDaysSpec)) countDaysUptoCard
end Rows
end Go.Proofs.YtagmdglmflcegaaDoor
