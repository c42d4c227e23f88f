import Derived.Test.YthnjjcoahdhmnaaGreatDoorOW28
import Derived.Test.YthnjjcoahdhmnaaGreatDoorOW28b
import Derived.Test.YthnjjcoahdhmnaaGreatDoorOCT
import Derived.Test.YthnjjcoahdhmnaaGreatDoorOG2
set_option maxHeartbeats 8000000
set_option maxRecDepth 100000
set_option linter.unusedSimpArgs false
set_option linter.unusedVariables false
namespace Go.Proofs.YthnjjcoahdhmnaaGreatDoor
open Go.ChangeShapes Go.WideShapes Go.ChangeAt Go.RowKit Go.Lib Go.Sort Go.Shelf
theorem FH(y n:Int)(l:Bool)(d:Int)(w:World)(hT:Tab w 7 kevCells)(hL:Tab w 5 lenCells)(h:D10.aB y n l d=0):
  Calls Tryo.prog 23 #[.int .i64 (D10.aF y n l d)] w fun e w'=>e= .returned (.tuple #[.agg #[.int .i64 (y),.int .i64 (n),.bool (l),.int .i64 (d)],.int .i64 0])/\Below w.heap.size w w':=by
 obtain⟨hv,e,e1,e2⟩:=D10.j4 h
 have:=jL y (Cal.plV (Cal.leap y) n l) d w hT hL hv
 rwa [←e,e1,e2]at this
end Go.Proofs.YthnjjcoahdhmnaaGreatDoor
