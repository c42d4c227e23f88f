/- Layer 27: the document's next day, and the one ahead. -/
import Derived.Test.YtgcpflbpiifdbaaDoorCount2
import Derived.Test.YtgcpflbpiifdbaaDoorTail
import Derived.Test.YtgcpflbpiifdbaaDoorHebR
namespace Go.Proofs.YtgcpflbpiifdbaaDoor
open Go.ChangeShapes Go.WideShapes Go.ChangeAt Go.RowKit
set_option linter.unusedVariables false
set_option maxRecDepth 100000
end Go.Proofs.YtgcpflbpiifdbaaDoor
