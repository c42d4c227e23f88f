/- The library's contract of Mul64, laid at this dump in plain words. -/
import Derived.Shelf.Bits.Mul64
import Derived.Test.YtncckpfenjokmaaDoorProg
namespace Go.Proofs
open Go.Shelf
namespace YtncckpfenjokmaaDoor
def lays264_ren : Go.Shelf.Ren := ⟨fun | 264 => 207 | n => n, fun | 53 => 172 | 46 => 139 | n => n, fun | n => n⟩
theorem lays264 : Go.Proofs.Lays.n264 Tryd.prog lays264_ren := {
  mixed := by kernel_rfl
  f264 := Tryd.func207.trans (congrArg some (by kernel_rfl))
  t46 := Tryd.underlying139
  a46 := Tryd.isAgg139
  z46 := Tryd.sizeOf139
  v46 := Tryd.zeroValue139
  t53 := Tryd.underlying172
  a53 := Tryd.isAgg172
  z53 := Tryd.sizeOf172
  v53 := Tryd.zeroValue172 }
open Go.RowKit Go.Lib in
theorem bits_Mul64 (x y : Nat) (hx : x < 18446744073709551616) (hy : y < 18446744073709551616) (w : World) :
    Calls Tryd.prog 207 #[.int .u64 x, .int .u64 y] w fun e w' => e = .returned (.tuple #[.int .u64 ((x * y / 18446744073709551616 : Nat) : Int), .int .u64 ((x * y % 18446744073709551616 : Nat) : Int)]) ∧ w' = w := Any.bits_Mul64 lays264 x y hx hy w
end YtncckpfenjokmaaDoor
end Go.Proofs
