import Derived.Test.YthnjjcoahdhmnaaGreatDoorJBB
import Derived.StillTail
import Derived.Deep.Quiet
set_option maxHeartbeats 8000000
set_option maxRecDepth 100000
namespace Go.Proofs.YthnjjcoahdhmnaaGreatDoor
open Go.RowKit
section
variable {P:Program} {ops:Array Oper} {md:Region.Mode} {C:World->Prop}
end
end Go.Proofs.YthnjjcoahdhmnaaGreatDoor
