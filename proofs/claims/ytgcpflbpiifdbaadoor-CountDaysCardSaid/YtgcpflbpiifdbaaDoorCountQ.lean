/- Layer 27: the document's next day, and the one ahead, of any date. -/
import Derived.Test.YtgcpflbpiifdbaaDoorCountR
namespace Go.Proofs.YtgcpflbpiifdbaaDoor
open Go.ChangeShapes Go.WideShapes Go.ChangeAt Go.RowKit
set_option linter.unusedVariables false
set_option maxRecDepth 100000
namespace D27
theorem last_29 (y : Int) (h1 : 1 ≤ y) (h2 : y ≤ 9999) : D10.dLen y (Cal.most (Cal.leap y)) = 29 := by
  obtain ⟨i, hi, a, b, c⟩ := year_row y h1 h2
  unfold D10.dLen
  rw [a, b, c]
  have := List.all_eq_true.1 (show ((List.range 14).all fun i => decide (daysV (kevB i) (kevK i) (kevL i) (Cal.most (kevL i)) = 29)) = true by decide +kernel) i (List.mem_range.2 hi)
  simpa using this
theorem of_most (lp : Bool) : Cal.ofN lp (Cal.most lp) = 12 := by cases lp <;> decide
end D27
end Go.Proofs.YtgcpflbpiifdbaaDoor
