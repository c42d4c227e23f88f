/- Layer 15: its laws. -/
import Derived.Test.YtgcpflbpiifdbaaDoorShiftN
namespace Go.Proofs.YtgcpflbpiifdbaaDoor
open Go.ChangeShapes Go.WideShapes Go.ChangeAt Go.RowKit
set_option linter.unusedVariables false
set_option maxRecDepth 100000
namespace S15
theorem codes_ends : ∀ lp : Bool, Cal.ofN lp 1 = 1 ∧ Cal.ofL lp 1 = false := by decide
theorem codes_last : ∀ lp : Bool, Cal.ofN lp (Cal.most lp) = 12 := by decide
theorem last_0 {y n : Int} {l : Bool} (h1 : 1 ≤ y) (h2 : y ≤ 9999) (hp : Cal.plOk (Cal.leap y) n l = true) : D10.lastE y n l = 0 := by simp [D10.lastE, Cal.yearIn_yes y h1 h2, hp]
end S15
end Go.Proofs.YtgcpflbpiifdbaaDoor
