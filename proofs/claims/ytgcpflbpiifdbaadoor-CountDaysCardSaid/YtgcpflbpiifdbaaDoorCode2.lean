/- Layer 9: texts of codes. -/
import Derived.Test.YtgcpflbpiifdbaaDoorCode
import Derived.Deep.RegionHeld
namespace Go.Proofs.YtgcpflbpiifdbaaDoor
open Go.ChangeShapes Go.WideShapes Go.ChangeAt Go.RowKit
set_option linter.unusedVariables false
set_option maxRecDepth 100000

end Go.Proofs.YtgcpflbpiifdbaaDoor
