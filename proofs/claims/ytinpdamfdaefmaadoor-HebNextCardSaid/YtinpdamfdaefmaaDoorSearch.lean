/- The library's contract of sort.Search, laid at this dump in plain words. -/
import Derived.Shelf.SlSorted.Search
import Derived.Test.YtinpdamfdaefmaaDoorProg
namespace Go.Proofs
open Go.Shelf
namespace YtinpdamfdaefmaaDoor
def search_ren : Go.Shelf.Ren := ⟨fun | 16 => 68 | n => n, fun | 3 => 3 | 35 => 43 | 4 => 4 | 38 => 89 | n => n, fun | n => n⟩
theorem search : Go.Proofs.SlLaysO.n16 Tryd.prog search_ren := {
  mixed := by kernel_rfl
  f16 := Tryd.func68.trans (congrArg some (by kernel_rfl))
  t3 := Tryd.underlying3
  a3 := Tryd.isAgg3
  z3 := Tryd.sizeOf3
  v3 := Tryd.zeroValue3
  t4 := Tryd.underlying4
  a4 := Tryd.isAgg4
  z4 := Tryd.sizeOf4
  v4 := Tryd.zeroValue4
  t35 := Tryd.underlying43
  a35 := Tryd.isAgg43
  z35 := Tryd.sizeOf43
  v35 := Tryd.zeroValue43
  t38 := Tryd.underlying89
  a38 := Tryd.isAgg89
  z38 := Tryd.sizeOf89
  v38 := Tryd.zeroValue89 }
end YtinpdamfdaefmaaDoor
end Go.Proofs
