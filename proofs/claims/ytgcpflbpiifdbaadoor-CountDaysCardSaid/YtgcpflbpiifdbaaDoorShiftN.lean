/- Layer 15: the document's months, year by year; both at any input. -/
import Derived.Test.YtgcpflbpiifdbaaDoorShiftM
namespace Go.Proofs.YtgcpflbpiifdbaaDoor
open Go.ChangeShapes Go.WideShapes Go.ChangeAt Go.RowKit Go.Sort
set_option linter.unusedVariables false
set_option maxRecDepth 100000
namespace S15
end S15
end Go.Proofs.YtgcpflbpiifdbaaDoor
