/- The library's variable MaxLen. -/
import Derived.Test.YtagmdglmflcegaaGreatDoorFlat
namespace Go.Proofs.YtagmdglmflcegaaGreatDoor
open Go.ChangeShapes Go.WideShapes Go.ChangeAt Go.RowKit
set_option linter.unusedVariables false
set_option maxRecDepth 100000
/-- The library's variable MaxLen lies in memory. -/
def MaxAt (w : World) (m : Int) : Prop := w.cell? ⟨1, 0, none⟩ = some (.int .i64 m) ∧ 1 < w.heap.size
theorem MaxAt.below {a b : World} {m : Int} (h : MaxAt a m) (hb : Below a.heap.size a b) : MaxAt b m := ⟨(hb.cell (p := ⟨1, 0, none⟩) h.2).trans h.1, Nat.lt_of_lt_of_le h.2 hb.size⟩
end Go.Proofs.YtagmdglmflcegaaGreatDoor
