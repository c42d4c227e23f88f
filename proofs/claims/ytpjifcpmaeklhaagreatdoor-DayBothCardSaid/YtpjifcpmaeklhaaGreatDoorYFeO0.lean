import Derived.Test.YtpjifcpmaeklhaaGreatDoorYFE
set_option maxHeartbeats 8000000
set_option maxRecDepth 100000
set_option linter.unusedVariables false
namespace Go.Proofs.YtpjifcpmaeklhaaGreatDoor
open Go.ChangeShapes Go.WideShapes Go.ChangeAt Go.RowKit Go.Lib Go.Sort Go.Shelf
end Go.Proofs.YtpjifcpmaeklhaaGreatDoor
