import Derived.Shelf.SlGeneric
import Derived.Ground.SlgnProg
import Derived.Shelf.SlicesE.Clone
import Derived.Ground.SlsfProg
import Derived.Shelf.SlSortCmp.NoneTotal
import Derived.Shelf.Small.Bits
import Derived.Shelf.Small.Wraps
import Derived.Shelf.Strconv.Itoa0
import Derived.Shelf.Bits.Mul64
import Derived.Test.YtgojeobnoebnlaaGreatDoorQPo
set_option maxHeartbeats 8000000
set_option maxRecDepth 100000
namespace Go.Proofs
open Go.Shelf
def Tryz.lays122_ren : Go.Shelf.Ren := ⟨fun | 122 => 90 | 215 => 135 | n => n, fun | 3 => 3 | 4 => 4 | n => n, fun | n => n⟩
theorem Tryz.lays122 : Go.Proofs.Lays.n122 Tryo.prog Tryz.lays122_ren := {
 mixed := by kernel_rfl
 f122 := Tryo.func90.trans (congrArg some (by kernel_rfl))
 f215 := Tryo.func135.trans (congrArg some (by kernel_rfl))
 t3 := (und_o Tryz.underlying3)
 a3 := (run_o (Tryo.isAgg 3) Tryz.isAgg3)
 z3 := (run_o (Tryo.sizeOf 3) Tryz.sizeOf3)
 v3 := (run_o (Tryo.zeroValue 3) Tryz.zeroValue3)
 t4 := (und_o Tryz.underlying4)
 a4 := (run_o (Tryo.isAgg 4) Tryz.isAgg4)
 z4 := (run_o (Tryo.sizeOf 4) Tryz.sizeOf4)
 v4 := (run_o (Tryo.zeroValue 4) Tryz.zeroValue4) }
open Go.RowKit in
theorem Tryz.cmp_Compare_int (x y : Int) (w : World) :
  Calls Tryo.prog 90 #[.int .i64 x, .int .i64 y] w fun e w' => e = .returned (.int .i64 (Lib.compareInt x y)) ∧ w' = w := Any.cmp_Compare_int Tryz.lays122 x y w
def Tryz.layClone_ren : Go.Shelf.Ren := ⟨fun | 41 => 47 | n => n, fun | 22 => 24 | 23 => 36 | 4 => 4 | n => n, fun | n => n⟩
theorem Tryz.layClone : Go.Proofs.SlLaysE0.n41 Tryo.prog Tryz.layClone_ren := {
 mixed := by kernel_rfl
 f41 := ⟨Tryz.f47.name, by decide, Tryo.func47.trans (congrArg some (by kernel_rfl))⟩
 t4 := (und_o Tryz.underlying4)
 a4 := (run_o (Tryo.isAgg 4) Tryz.isAgg4)
 z4 := (run_o (Tryo.sizeOf 4) Tryz.sizeOf4)
 v4 := (run_o (Tryo.zeroValue 4) Tryz.zeroValue4)
 t22 := (und_o Tryz.underlying24)
 a22 := (run_o (Tryo.isAgg 24) Tryz.isAgg24)
 z22 := (run_o (Tryo.sizeOf 24) Tryz.sizeOf24)
 v22 := (run_o (Tryo.zeroValue 24) Tryz.zeroValue24) }
def Tryz.laySort_ren : Go.Shelf.Ren := ⟨fun | 6 => 48 | 15 => 89 | 14 => 88 | 28 => 133 | 29 => 134 | 20 => 125 | 21 => 126 | 22 => 127 | 23 => 128 | 24 => 129 | 25 => 130 | 26 => 131 | 27 => 132 | 46 => 167 | 47 => 168 | 48 => 169 | 49 => 170 | 50 => 171 | 57 => 184 | n => n, fun | 22 => 24 | 24 => 36 | 25 => 104 | 3 => 3 | 39 => 141 | 0 => 0 | 53 => 157 | 55 => 154 | 4 => 4 | 46 => 172 | 45 => 171 | 50 => 134 | 5 => 5 | 9 => 9 | 66 => 197 | 70 => 200 | 76 => 214 | 77 => 107 | n => n, fun | n => n⟩
theorem Tryz.laySort : Go.Proofs.SlLaysF0.n6 Tryo.prog Tryz.laySort_ren := {
 mixed := by kernel_rfl
 f6 := ⟨Tryz.f48.name, by decide, Tryo.func48.trans (congrArg some (by kernel_rfl))⟩
 f14 := ⟨Tryz.f88.name, by decide, Tryo.func88.trans (congrArg some (by kernel_rfl))⟩
 f15 := Tryo.func89.trans (congrArg some (by kernel_rfl))
 f20 := ⟨Tryz.f125.name, by decide, Tryo.func125.trans (congrArg some (by kernel_rfl))⟩
 f21 := ⟨Tryz.f126.name, by decide, Tryo.func126.trans (congrArg some (by kernel_rfl))⟩
 f22 := ⟨Tryz.f127.name, by decide, Tryo.func127.trans (congrArg some (by kernel_rfl))⟩
 f23 := ⟨Tryz.f128.name, by decide, Tryo.func128.trans (congrArg some (by kernel_rfl))⟩
 f24 := ⟨Tryz.f129.name, by decide, Tryo.func129.trans (congrArg some (by kernel_rfl))⟩
 f25 := ⟨Tryz.f130.name, by decide, Tryo.func130.trans (congrArg some (by kernel_rfl))⟩
 f26 := ⟨Tryz.f131.name, by decide, Tryo.func131.trans (congrArg some (by kernel_rfl))⟩
 f27 := ⟨Tryz.f132.name, by decide, Tryo.func132.trans (congrArg some (by kernel_rfl))⟩
 f28 := Tryo.func133.trans (congrArg some (by kernel_rfl))
 f29 := Tryo.func134.trans (congrArg some (by kernel_rfl))
 f46 := ⟨Tryz.f167.name, by decide, Tryo.func167.trans (congrArg some (by kernel_rfl))⟩
 f47 := Tryo.func168.trans (congrArg some (by kernel_rfl))
 f48 := Tryo.func169.trans (congrArg some (by kernel_rfl))
 f49 := ⟨Tryz.f170.name, by decide, Tryo.func170.trans (congrArg some (by kernel_rfl))⟩
 f50 := ⟨Tryz.f171.name, by decide, Tryo.func171.trans (congrArg some (by kernel_rfl))⟩
 f57 := ⟨Tryz.f184.name, by decide, Tryo.func184.trans (congrArg some (by kernel_rfl))⟩
 t0 := (und_o Tryz.underlying0)
 a0 := (run_o (Tryo.isAgg 0) Tryz.isAgg0)
 z0 := (run_o (Tryo.sizeOf 0) Tryz.sizeOf0)
 v0 := (run_o (Tryo.zeroValue 0) Tryz.zeroValue0)
 t3 := (und_o Tryz.underlying3)
 a3 := (run_o (Tryo.isAgg 3) Tryz.isAgg3)
 z3 := (run_o (Tryo.sizeOf 3) Tryz.sizeOf3)
 v3 := (run_o (Tryo.zeroValue 3) Tryz.zeroValue3)
 t4 := (und_o Tryz.underlying4)
 a4 := (run_o (Tryo.isAgg 4) Tryz.isAgg4)
 z4 := (run_o (Tryo.sizeOf 4) Tryz.sizeOf4)
 v4 := (run_o (Tryo.zeroValue 4) Tryz.zeroValue4)
 t5 := (und_o Tryz.underlying5)
 a5 := (run_o (Tryo.isAgg 5) Tryz.isAgg5)
 z5 := (run_o (Tryo.sizeOf 5) Tryz.sizeOf5)
 v5 := (run_o (Tryo.zeroValue 5) Tryz.zeroValue5)
 t9 := (und_o Tryz.underlying9)
 a9 := (run_o (Tryo.isAgg 9) Tryz.isAgg9)
 z9 := (run_o (Tryo.sizeOf 9) Tryz.sizeOf9)
 v9 := (run_o (Tryo.zeroValue 9) Tryz.zeroValue9)
 t22 := (und_o Tryz.underlying24)
 a22 := (run_o (Tryo.isAgg 24) Tryz.isAgg24)
 z22 := (run_o (Tryo.sizeOf 24) Tryz.sizeOf24)
 v22 := (run_o (Tryo.zeroValue 24) Tryz.zeroValue24)
 t25 := (und_o Tryz.underlying104)
 a25 := (run_o (Tryo.isAgg 104) Tryz.isAgg104)
 z25 := (run_o (Tryo.sizeOf 104) Tryz.sizeOf104)
 v25 := (run_o (Tryo.zeroValue 104) Tryz.zeroValue104)
 t39 := (und_o Tryz.underlying141)
 a39 := (run_o (Tryo.isAgg 141) Tryz.isAgg141)
 z39 := (run_o (Tryo.sizeOf 141) Tryz.sizeOf141)
 v39 := (run_o (Tryo.zeroValue 141) Tryz.zeroValue141)
 t45 := (und_o Tryz.underlying171)
 a45 := (run_o (Tryo.isAgg 171) Tryz.isAgg171)
 z45 := (run_o (Tryo.sizeOf 171) Tryz.sizeOf171)
 v45 := (run_o (Tryo.zeroValue 171) Tryz.zeroValue171)
 t46 := (und_o Tryz.underlying172)
 a46 := (run_o (Tryo.isAgg 172) Tryz.isAgg172)
 z46 := (run_o (Tryo.sizeOf 172) Tryz.sizeOf172)
 v46 := (run_o (Tryo.zeroValue 172) Tryz.zeroValue172)
 t50 := (und_o Tryz.underlying134)
 a50 := (run_o (Tryo.isAgg 134) Tryz.isAgg134)
 z50 := (run_o (Tryo.sizeOf 134) Tryz.sizeOf134)
 v50 := (run_o (Tryo.zeroValue 134) Tryz.zeroValue134)
 t53 := (und_o Tryz.underlying157)
 a53 := (run_o (Tryo.isAgg 157) Tryz.isAgg157)
 z53 := (run_o (Tryo.sizeOf 157) Tryz.sizeOf157)
 v53 := (run_o (Tryo.zeroValue 157) Tryz.zeroValue157)
 t55 := (und_o Tryz.underlying154)
 a55 := (run_o (Tryo.isAgg 154) Tryz.isAgg154)
 z55 := (run_o (Tryo.sizeOf 154) Tryz.sizeOf154)
 v55 := (run_o (Tryo.zeroValue 154) Tryz.zeroValue154)
 t66 := (und_o Tryz.underlying197)
 a66 := (run_o (Tryo.isAgg 197) Tryz.isAgg197)
 z66 := (run_o (Tryo.sizeOf 197) Tryz.sizeOf197)
 v66 := (run_o (Tryo.zeroValue 197) Tryz.zeroValue197)
 t70 := (und_o Tryz.underlying200)
 a70 := (run_o (Tryo.isAgg 200) Tryz.isAgg200)
 z70 := (run_o (Tryo.sizeOf 200) Tryz.sizeOf200)
 v70 := (run_o (Tryo.zeroValue 200) Tryz.zeroValue200)
 t76 := (und_o Tryz.underlying214)
 a76 := (run_o (Tryo.isAgg 214) Tryz.isAgg214)
 z76 := (run_o (Tryo.sizeOf 214) Tryz.sizeOf214)
 v76 := (run_o (Tryo.zeroValue 214) Tryz.zeroValue214)
 t77 := (und_o Tryz.underlying107)
 a77 := (run_o (Tryo.isAgg 107) Tryz.isAgg107)
 z77 := (run_o (Tryo.sizeOf 107) Tryz.sizeOf107)
 v77 := (run_o (Tryo.zeroValue 107) Tryz.zeroValue107) }
end Go.Proofs
