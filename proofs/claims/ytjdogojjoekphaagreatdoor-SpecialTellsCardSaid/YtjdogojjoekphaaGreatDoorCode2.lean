/- Layer 9: texts of codes. -/
import Derived.Test.YtjdogojjoekphaaGreatDoorCode
import Derived.Deep.RegionHeld
namespace Go.Proofs.YtjdogojjoekphaaGreatDoor
open Go.ChangeShapes Go.WideShapes Go.ChangeAt Go.RowKit
set_option linter.unusedVariables false
set_option maxRecDepth 100000

end Go.Proofs.YtjdogojjoekphaaGreatDoor
