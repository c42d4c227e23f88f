import Derived.Test.YthnjjcoahdhmnaaGreatDoorOLA
import Derived.Deep.RegionHeld3
import Derived.LoopTactic
import Derived.Deep.QuietTactic
import Derived.BigQuiet
import Derived.Lib.SmallJoins
set_option maxHeartbeats 8000000
set_option maxRecDepth 100000
set_option linter.unusedVariables false
namespace Go.Proofs.YthnjjcoahdhmnaaGreatDoor
open Go.ChangeShapes Go.WideShapes Go.ChangeAt Go.RowKit
def bS:Nat->Int
 |0=>1|1=>1|2=>2|3=>4|4=>4|5=>6|6=>6|7=>1|8=>1|9=>2|10=>4|11=>4|12=>6|_=>6
def jF:Nat->Int
 |0=>0|1=>2|2=>1|3=>1|4=>2|5=>0|6=>2|7=>0|8=>2|9=>1|10=>0|11=>2|12=>0|_=>2
def jE(i:Nat):Bool:=decide (7<=i)
def Kev(w:World):Prop:=(∀i,i<14->w.cell? ⟨7,i*3,none⟩=some (.int .i64 (bS i))/\w.cell? ⟨7,i*3+1,none⟩=some (.int .i64 (jF i))/\w.cell? ⟨7,i*3+2,none⟩=some (.bool (jE i)))/\7<w.heap.size
theorem Kev.below{a b:World}(h:Kev a)(hb:Below a.heap.size a b):Kev b:=
 ⟨fun i hi=>⟨(hb.cell (p:=⟨_,_,none⟩) h.2).trans (h.1 i hi).1,(hb.cell (p:=⟨_,_,none⟩) h.2).trans (h.1 i hi).2.1,(hb.cell (p:=⟨_,_,none⟩) h.2).trans (h.1 i hi).2.2⟩,Nat.lt_of_lt_of_le h.2 hb.size⟩
theorem bs0{a b:World}(h:Below a.heap.size a b)(o:Nat)(u:Value):Below a.heap.size a (b.setCell ⟨a.heap.size,o,none⟩ u):=h.setCell (Nat.le_refl _) u
end Go.Proofs.YthnjjcoahdhmnaaGreatDoor
