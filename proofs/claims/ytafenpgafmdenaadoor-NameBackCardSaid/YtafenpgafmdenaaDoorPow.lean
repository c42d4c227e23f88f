/- The library's table of powers, in plain cells. -/
import Derived.Test.YtafenpgafmdenaaDoorFlat
import Derived.Lib.AppendIntMem
import Derived.KernelRfl
namespace Go.Proofs.YtafenpgafmdenaaDoor
open Go.ChangeShapes Go.WideShapes Go.ChangeAt Go.RowKit
set_option linter.unusedVariables false
def powU : List Value := Lib.pow10Tab.map fun z => Value.int .u64 z
theorem tabIs_of_tab {w : World} (h : Tab w 2 powU) : Lib.TabIs Tryd.prog w "internal/strconv.uint64pow10" .u64 Lib.pow10Tab := by
  obtain ⟨t, h⟩ := h
  have hg : Tryd.prog.globalNamed "internal/strconv.uint64pow10" = some 2 := by kernel_rfl
  unfold Lib.TabIs World.var?
  simp only [hg, Option.bind_some, h]
  rfl
end Go.Proofs.YtafenpgafmdenaaDoor
