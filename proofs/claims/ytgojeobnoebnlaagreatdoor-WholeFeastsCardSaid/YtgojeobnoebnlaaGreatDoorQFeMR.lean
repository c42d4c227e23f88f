import Derived.Test.YtgojeobnoebnlaaGreatDoorQYM
import Derived.Test.YtgojeobnoebnlaaGreatDoorQFeO0
import Derived.Test.YtgojeobnoebnlaaGreatDoorQFeO1
set_option maxHeartbeats 8000000
set_option maxRecDepth 100000
set_option linter.unusedVariables false
namespace Go.Proofs.YtgojeobnoebnlaaGreatDoor
open Go.ChangeShapes Go.WideShapes Go.ChangeAt Go.RowKit Go.Lib Go.Sort Go.Shelf
namespace Fe
end Fe
end Go.Proofs.YtgojeobnoebnlaaGreatDoor
