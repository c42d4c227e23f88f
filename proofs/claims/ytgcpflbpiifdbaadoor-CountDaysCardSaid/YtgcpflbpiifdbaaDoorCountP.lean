/- Layer 27: the document's steps, and the days between two dates. -/
import Derived.Test.YtgcpflbpiifdbaaDoorCountQ
import Derived.Test.YtgcpflbpiifdbaaDoorCountI
import Derived.LoopTactic
namespace Go.Proofs.YtgcpflbpiifdbaaDoor
open Go.ChangeShapes Go.WideShapes Go.ChangeAt Go.RowKit
set_option linter.unusedVariables false
set_option maxRecDepth 100000
end Go.Proofs.YtgcpflbpiifdbaaDoor
