/- The library's contract of sort.Search, laid at this dump in plain words. -/
import Derived.Shelf.SlSorted.Search
import Derived.Test.YtncckpfenjokmaaDoorProg
namespace Go.Proofs
open Go.Shelf
namespace YtncckpfenjokmaaDoor
def search_ren : Go.Shelf.Ren := ⟨fun | 16 => 86 | n => n, fun | 3 => 3 | 35 => 30 | 4 => 4 | 38 => 139 | n => n, fun | n => n⟩
theorem search : Go.Proofs.SlLaysO.n16 Tryd.prog search_ren := {
  mixed := by kernel_rfl
  f16 := Tryd.func86.trans (congrArg some (by kernel_rfl))
  t3 := Tryd.underlying3
  a3 := Tryd.isAgg3
  z3 := Tryd.sizeOf3
  v3 := Tryd.zeroValue3
  t4 := Tryd.underlying4
  a4 := Tryd.isAgg4
  z4 := Tryd.sizeOf4
  v4 := Tryd.zeroValue4
  t35 := Tryd.underlying30
  a35 := Tryd.isAgg30
  z35 := Tryd.sizeOf30
  v35 := Tryd.zeroValue30
  t38 := Tryd.underlying139
  a38 := Tryd.isAgg139
  z38 := Tryd.sizeOf139
  v38 := Tryd.zeroValue139 }
end YtncckpfenjokmaaDoor
end Go.Proofs
