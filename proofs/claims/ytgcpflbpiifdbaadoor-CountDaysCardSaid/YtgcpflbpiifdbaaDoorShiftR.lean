/- Layer 15: the document's answers. -/
import Derived.Test.YtgcpflbpiifdbaaDoorShift
namespace Go.Proofs.YtgcpflbpiifdbaaDoor
open Go.ChangeShapes Go.WideShapes Go.ChangeAt Go.RowKit Go.Sort
set_option linter.unusedVariables false
set_option maxRecDepth 100000
end Go.Proofs.YtgcpflbpiifdbaaDoor
