import Derived.Test.YtpjifcpmaeklhaaGreatDoorYYM
import Derived.Test.YtpjifcpmaeklhaaGreatDoorYFeO0
import Derived.Test.YtpjifcpmaeklhaaGreatDoorYFeO1
set_option maxHeartbeats 8000000
set_option maxRecDepth 100000
set_option linter.unusedVariables false
namespace Go.Proofs.YtpjifcpmaeklhaaGreatDoor
open Go.ChangeShapes Go.WideShapes Go.ChangeAt Go.RowKit Go.Lib Go.Sort Go.Shelf
namespace Fe
end Fe
end Go.Proofs.YtpjifcpmaeklhaaGreatDoor
