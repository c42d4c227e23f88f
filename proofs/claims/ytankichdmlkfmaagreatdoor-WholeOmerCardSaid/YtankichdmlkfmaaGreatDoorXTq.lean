import Derived.Test.YtankichdmlkfmaaGreatDoorXTp
import Derived.Test.YtankichdmlkfmaaGreatDoorXW19r
import Derived.Test.YtankichdmlkfmaaGreatDoorXWeek
set_option maxHeartbeats 8000000
set_option maxRecDepth 100000
set_option linter.unusedSimpArgs false
set_option linter.unusedVariables false
namespace Go.Proofs.YtankichdmlkfmaaGreatDoor
open Go.ChangeShapes Go.WideShapes Go.ChangeAt Go.RowKit Go.Lib Go.Sort Go.Shelf
end Go.Proofs.YtankichdmlkfmaaGreatDoor
