/- Layer 15: the document's months, year by year; both at any input. -/
import Derived.Test.YtafenpgafmdenaaDoorShiftM
namespace Go.Proofs.YtafenpgafmdenaaDoor
open Go.ChangeShapes Go.WideShapes Go.ChangeAt Go.RowKit Go.Sort
set_option linter.unusedVariables false
set_option maxRecDepth 100000
namespace S15
end S15
end Go.Proofs.YtafenpgafmdenaaDoor
