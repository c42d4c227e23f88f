/- The library's table of powers, in plain cells. -/
import Derived.Test.YtagmdglmflcegaaGreatDoorFlat
import Derived.Lib.AppendIntMem
import Derived.KernelRfl
namespace Go.Proofs.YtagmdglmflcegaaGreatDoor
open Go.ChangeShapes Go.WideShapes Go.ChangeAt Go.RowKit
set_option linter.unusedVariables false
set_option maxRecDepth 100000
def powU : List Value := Lib.pow10Tab.map fun z => Value.int .u64 z
theorem tabIs_of_tab {w : World} (h : Tab w 4 powU) : Lib.TabIs Tryz.prog w "internal/strconv.uint64pow10" .u64 Lib.pow10Tab := by
  obtain ⟨t, h⟩ := h
  have hg : Tryz.prog.globalNamed "internal/strconv.uint64pow10" = some 4 := by kernel_rfl
  unfold Lib.TabIs World.var?
  simp only [hg, Option.bind_some, h]
  rfl
end Go.Proofs.YtagmdglmflcegaaGreatDoor
