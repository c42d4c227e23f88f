/- Layer 15: the document's answers. -/
import Derived.Test.YtbmcpeccofadhaaDoorShift
namespace Go.Proofs.YtbmcpeccofadhaaDoor
open Go.ChangeShapes Go.WideShapes Go.ChangeAt Go.RowKit Go.Sort
set_option linter.unusedVariables false
set_option maxRecDepth 100000
end Go.Proofs.YtbmcpeccofadhaaDoor
