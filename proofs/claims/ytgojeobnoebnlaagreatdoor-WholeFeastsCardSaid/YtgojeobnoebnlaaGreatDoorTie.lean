/-
  DERIVED. GIVEN WITH THE SEED: THE PROGRAM's TIES (one call each: nine closed facts by the kernel) AND EACH ROW's TIE, after the 31st guide's Derived/Test/Toyas{Tie, Card}.lean. No idea stands in it: it is a product of the set-up. Laid BY PROGRAM, IN A SANDBOX (cutbox-door.mjs). By AI agents, Wed Nov 11 2026. No macro, syntax, notation, axiom, sorry.
-/
import Derived.Test.YtgojeobnoebnlaaGreatDoorRows
import Derived.LaidByTextLater
import Derived.SevenTiedAt
import Derived.LaidSub
import Derived.LaidOnce
namespace Go.Proofs.YtgojeobnoebnlaaGreatDoor
open Go
set_option maxRecDepth 100000
theorem seatTie1 : Tryz.prog.laidByTextLater [("almanacker/keviah.types", Rows.laid_almanacker_keviah_types), ("almanacker/month.lengths", Rows.laid_almanacker_month_lengths), ("almanacker/greg.lengths", Rows.laid_almanacker_greg_lengths), ("almanacker/feast.rows", Rows.laid_almanacker_feast_rows), ("almanacker/fast.rows", Rows.laid_almanacker_fast_rows), ("almanacker/torah.pairs", Rows.laid_almanacker_torah_pairs), ("almanacker/text.powers", Rows.laid_almanacker_text_powers)] [.data, .data, .data, .data, .data, .data, .data] true :=
  Program.laidByTextLater_by_one 143 8 134 (by kernel_rfl) (by kernel_rfl) (by kernel_rfl) (by kernel_rfl) (by kernel_rfl) (by kernel_rfl) (fun _ _ => by kernel_rfl)
theorem noOwnUnsafe : Tryz.pinned.checked.prog.headLifts.contains "ownunsafe" = false := by kernel_rfl
theorem tie : Tryz.prog.laidByTextLater [("almanacker/keviah.types", Rows.laid_almanacker_keviah_types), ("almanacker/month.lengths", Rows.laid_almanacker_month_lengths), ("almanacker/greg.lengths", Rows.laid_almanacker_greg_lengths), ("almanacker/feast.rows", Rows.laid_almanacker_feast_rows), ("almanacker/fast.rows", Rows.laid_almanacker_fast_rows), ("almanacker/text.powers", Rows.laid_almanacker_text_powers)] [.data, .data, .data, .data, .data, .data] true :=
  Program.laidByTextLater.sub seatTie1 ["almanacker/keviah.types", "almanacker/month.lengths", "almanacker/greg.lengths", "almanacker/feast.rows", "almanacker/fast.rows", "almanacker/text.powers"] (by kernel_rfl) (by kernel_rfl)
theorem wholeFeasts_row_tie : Rows.wholeFeastsRow.laidByTextAt .later Tryz.pinned [.data, .data, .data, .data, .data, .data] true :=
  OpenClaim.laidByTextAt_later rfl rfl tie noOwnUnsafe
theorem tie2 : Tryz.prog.laidByTextLater [("almanacker/keviah.types", Rows.laid_almanacker_keviah_types), ("almanacker/month.lengths", Rows.laid_almanacker_month_lengths), ("almanacker/greg.lengths", Rows.laid_almanacker_greg_lengths), ("almanacker/feast.rows", Rows.laid_almanacker_feast_rows), ("almanacker/fast.rows", Rows.laid_almanacker_fast_rows), ("almanacker/torah.pairs", Rows.laid_almanacker_torah_pairs), ("almanacker/text.powers", Rows.laid_almanacker_text_powers)] [.data, .data, .data, .data, .data, .data, .data] true :=
  Program.laidByTextLater.sub seatTie1 ["almanacker/keviah.types", "almanacker/month.lengths", "almanacker/greg.lengths", "almanacker/feast.rows", "almanacker/fast.rows", "almanacker/torah.pairs", "almanacker/text.powers"] (by kernel_rfl) (by kernel_rfl)
theorem wholeTorah_row_tie : Rows.wholeTorahRow.laidByTextAt .later Tryz.pinned [.data, .data, .data, .data, .data, .data, .data] true :=
  OpenClaim.laidByTextAt_later rfl rfl tie2 noOwnUnsafe
theorem wholeFeastsUpto_row_tie : Rows.wholeFeastsUptoRow.laidByTextAt .later Tryz.pinned [.data, .data, .data, .data, .data, .data] true :=
  OpenClaim.laidByTextAt_later rfl rfl tie noOwnUnsafe
theorem wholeTorahUpto_row_tie : Rows.wholeTorahUptoRow.laidByTextAt .later Tryz.pinned [.data, .data, .data, .data, .data, .data, .data] true :=
  OpenClaim.laidByTextAt_later rfl rfl tie2 noOwnUnsafe
end Go.Proofs.YtgojeobnoebnlaaGreatDoor
