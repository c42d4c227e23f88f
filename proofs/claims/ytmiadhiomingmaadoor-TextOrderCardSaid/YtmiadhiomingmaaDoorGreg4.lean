/- Layer 11: the document's sums; which days may be. -/
import Derived.Test.YtmiadhiomingmaaDoorGreg3
namespace Go.Proofs.YtmiadhiomingmaaDoor
open Go.ChangeShapes Go.WideShapes Go.ChangeAt Go.RowKit
set_option linter.unusedVariables false
set_option maxRecDepth 100000
end Go.Proofs.YtmiadhiomingmaaDoor
