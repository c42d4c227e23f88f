/- The library's contract of sort.Search, laid at this dump in plain words. -/
import Derived.Shelf.SlSorted.Search
import Derived.Test.YtemkngkaaabghaaProg
namespace Go.Proofs
open Go.Shelf
namespace Ytemkngkaaabghaa
def search_ren : Go.Shelf.Ren := ⟨fun | 16 => 82 | n => n, fun | 3 => 3 | 35 => 40 | 4 => 4 | 38 => 70 | n => n, fun | n => n⟩
theorem search : Go.Proofs.SlLaysO.n16 Try.prog search_ren := {
  mixed := by kernel_rfl
  f16 := Try.func82.trans (congrArg some (by kernel_rfl))
  t3 := Try.underlying3
  a3 := Try.isAgg3
  z3 := Try.sizeOf3
  v3 := Try.zeroValue3
  t4 := Try.underlying4
  a4 := Try.isAgg4
  z4 := Try.sizeOf4
  v4 := Try.zeroValue4
  t35 := Try.underlying40
  a35 := Try.isAgg40
  z35 := Try.sizeOf40
  v35 := Try.zeroValue40
  t38 := Try.underlying70
  a38 := Try.isAgg70
  z38 := Try.sizeOf70
  v38 := Try.zeroValue70 }
end Ytemkngkaaabghaa
end Go.Proofs
