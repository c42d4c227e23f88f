/- Layer 15: months, months away. -/
import Derived.Test.YtgcpflbpiifdbaaDoorShiftR
namespace Go.Proofs.YtgcpflbpiifdbaaDoor
open Go.ChangeShapes Go.WideShapes Go.ChangeAt Go.RowKit Go.Sort
set_option linter.unusedVariables false
set_option maxRecDepth 100000
end Go.Proofs.YtgcpflbpiifdbaaDoor
