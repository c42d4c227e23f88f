/- Layer 9: texts of codes. -/
import Derived.Test.YtinpdamfdaefmaaDoorCode
import Derived.Deep.RegionHeld
namespace Go.Proofs.YtinpdamfdaefmaaDoor
open Go.ChangeShapes Go.WideShapes Go.ChangeAt Go.RowKit
set_option linter.unusedVariables false

end Go.Proofs.YtinpdamfdaefmaaDoor
