import Derived.Shelf.SlGeneric
import Derived.Ground.SlgnProg
import Derived.Shelf.SlicesE.Clone
import Derived.Ground.SlsfProg
import Derived.Shelf.SlSortCmp.NoneTotal
import Derived.Shelf.Small.Bits
import Derived.Shelf.Small.Wraps
import Derived.Shelf.Strconv.Itoa0
import Derived.Shelf.Bits.Mul64
import Derived.Test.YtankichdmlkfmaaGreatDoorXPo
set_option maxHeartbeats 8000000
set_option maxRecDepth 100000
namespace Go.Proofs
open Go.Shelf
def Tryz.lays122_ren : Go.Shelf.Ren := ⟨fun | 122 => 162 | 215 => 214 | n => n, fun | 3 => 3 | 4 => 4 | n => n, fun | n => n⟩
theorem Tryz.lays122 : Go.Proofs.Lays.n122 Tryo.prog Tryz.lays122_ren := {
 mixed := by kernel_rfl
 f122 := Tryo.func162.trans (congrArg some (by kernel_rfl))
 f215 := Tryo.func214.trans (congrArg some (by kernel_rfl))
 t3 := (und_o Tryz.underlying3)
 a3 := (run_o (Tryo.isAgg 3) Tryz.isAgg3)
 z3 := (run_o (Tryo.sizeOf 3) Tryz.sizeOf3)
 v3 := (run_o (Tryo.zeroValue 3) Tryz.zeroValue3)
 t4 := (und_o Tryz.underlying4)
 a4 := (run_o (Tryo.isAgg 4) Tryz.isAgg4)
 z4 := (run_o (Tryo.sizeOf 4) Tryz.sizeOf4)
 v4 := (run_o (Tryo.zeroValue 4) Tryz.zeroValue4) }
open Go.RowKit in
theorem Tryz.cmp_Compare_int (x y : Int) (w : World) :
  Calls Tryo.prog 162 #[.int .i64 x, .int .i64 y] w fun e w' => e = .returned (.int .i64 (Lib.compareInt x y)) ∧ w' = w := Any.cmp_Compare_int Tryz.lays122 x y w
def Tryz.layClone_ren : Go.Shelf.Ren := ⟨fun | 41 => 112 | n => n, fun | 22 => 55 | 23 => 75 | 4 => 4 | n => n, fun | n => n⟩
theorem Tryz.layClone : Go.Proofs.SlLaysE0.n41 Tryo.prog Tryz.layClone_ren := {
 mixed := by kernel_rfl
 f41 := ⟨Tryz.f112.name, by decide, Tryo.func112.trans (congrArg some (by kernel_rfl))⟩
 t4 := (und_o Tryz.underlying4)
 a4 := (run_o (Tryo.isAgg 4) Tryz.isAgg4)
 z4 := (run_o (Tryo.sizeOf 4) Tryz.sizeOf4)
 v4 := (run_o (Tryo.zeroValue 4) Tryz.zeroValue4)
 t22 := (und_o Tryz.underlying55)
 a22 := (run_o (Tryo.isAgg 55) Tryz.isAgg55)
 z22 := (run_o (Tryo.sizeOf 55) Tryz.sizeOf55)
 v22 := (run_o (Tryo.zeroValue 55) Tryz.zeroValue55) }
def Tryz.laySort_ren : Go.Shelf.Ren := ⟨fun | 6 => 113 | 15 => 161 | 14 => 160 | 28 => 212 | 29 => 213 | 20 => 204 | 21 => 205 | 22 => 206 | 23 => 207 | 24 => 208 | 25 => 209 | 26 => 210 | 27 => 211 | 46 => 232 | 47 => 233 | 48 => 234 | 49 => 235 | 50 => 236 | 57 => 244 | n => n, fun | 22 => 55 | 24 => 75 | 25 => 154 | 3 => 3 | 39 => 159 | 0 => 0 | 53 => 175 | 55 => 172 | 4 => 4 | 46 => 224 | 45 => 223 | 50 => 183 | 5 => 5 | 9 => 9 | 66 => 241 | 70 => 244 | 76 => 248 | 77 => 125 | n => n, fun | n => n⟩
theorem Tryz.laySort : Go.Proofs.SlLaysF0.n6 Tryo.prog Tryz.laySort_ren := {
 mixed := by kernel_rfl
 f6 := ⟨Tryz.f113.name, by decide, Tryo.func113.trans (congrArg some (by kernel_rfl))⟩
 f14 := ⟨Tryz.f160.name, by decide, Tryo.func160.trans (congrArg some (by kernel_rfl))⟩
 f15 := Tryo.func161.trans (congrArg some (by kernel_rfl))
 f20 := ⟨Tryz.f204.name, by decide, Tryo.func204.trans (congrArg some (by kernel_rfl))⟩
 f21 := ⟨Tryz.f205.name, by decide, Tryo.func205.trans (congrArg some (by kernel_rfl))⟩
 f22 := ⟨Tryz.f206.name, by decide, Tryo.func206.trans (congrArg some (by kernel_rfl))⟩
 f23 := ⟨Tryz.f207.name, by decide, Tryo.func207.trans (congrArg some (by kernel_rfl))⟩
 f24 := ⟨Tryz.f208.name, by decide, Tryo.func208.trans (congrArg some (by kernel_rfl))⟩
 f25 := ⟨Tryz.f209.name, by decide, Tryo.func209.trans (congrArg some (by kernel_rfl))⟩
 f26 := ⟨Tryz.f210.name, by decide, Tryo.func210.trans (congrArg some (by kernel_rfl))⟩
 f27 := ⟨Tryz.f211.name, by decide, Tryo.func211.trans (congrArg some (by kernel_rfl))⟩
 f28 := Tryo.func212.trans (congrArg some (by kernel_rfl))
 f29 := Tryo.func213.trans (congrArg some (by kernel_rfl))
 f46 := ⟨Tryz.f232.name, by decide, Tryo.func232.trans (congrArg some (by kernel_rfl))⟩
 f47 := Tryo.func233.trans (congrArg some (by kernel_rfl))
 f48 := Tryo.func234.trans (congrArg some (by kernel_rfl))
 f49 := ⟨Tryz.f235.name, by decide, Tryo.func235.trans (congrArg some (by kernel_rfl))⟩
 f50 := ⟨Tryz.f236.name, by decide, Tryo.func236.trans (congrArg some (by kernel_rfl))⟩
 f57 := ⟨Tryz.f244.name, by decide, Tryo.func244.trans (congrArg some (by kernel_rfl))⟩
 t0 := (und_o Tryz.underlying0)
 a0 := (run_o (Tryo.isAgg 0) Tryz.isAgg0)
 z0 := (run_o (Tryo.sizeOf 0) Tryz.sizeOf0)
 v0 := (run_o (Tryo.zeroValue 0) Tryz.zeroValue0)
 t3 := (und_o Tryz.underlying3)
 a3 := (run_o (Tryo.isAgg 3) Tryz.isAgg3)
 z3 := (run_o (Tryo.sizeOf 3) Tryz.sizeOf3)
 v3 := (run_o (Tryo.zeroValue 3) Tryz.zeroValue3)
 t4 := (und_o Tryz.underlying4)
 a4 := (run_o (Tryo.isAgg 4) Tryz.isAgg4)
 z4 := (run_o (Tryo.sizeOf 4) Tryz.sizeOf4)
 v4 := (run_o (Tryo.zeroValue 4) Tryz.zeroValue4)
 t5 := (und_o Tryz.underlying5)
 a5 := (run_o (Tryo.isAgg 5) Tryz.isAgg5)
 z5 := (run_o (Tryo.sizeOf 5) Tryz.sizeOf5)
 v5 := (run_o (Tryo.zeroValue 5) Tryz.zeroValue5)
 t9 := (und_o Tryz.underlying9)
 a9 := (run_o (Tryo.isAgg 9) Tryz.isAgg9)
 z9 := (run_o (Tryo.sizeOf 9) Tryz.sizeOf9)
 v9 := (run_o (Tryo.zeroValue 9) Tryz.zeroValue9)
 t22 := (und_o Tryz.underlying55)
 a22 := (run_o (Tryo.isAgg 55) Tryz.isAgg55)
 z22 := (run_o (Tryo.sizeOf 55) Tryz.sizeOf55)
 v22 := (run_o (Tryo.zeroValue 55) Tryz.zeroValue55)
 t25 := (und_o Tryz.underlying154)
 a25 := (run_o (Tryo.isAgg 154) Tryz.isAgg154)
 z25 := (run_o (Tryo.sizeOf 154) Tryz.sizeOf154)
 v25 := (run_o (Tryo.zeroValue 154) Tryz.zeroValue154)
 t39 := (und_o Tryz.underlying159)
 a39 := (run_o (Tryo.isAgg 159) Tryz.isAgg159)
 z39 := (run_o (Tryo.sizeOf 159) Tryz.sizeOf159)
 v39 := (run_o (Tryo.zeroValue 159) Tryz.zeroValue159)
 t45 := (und_o Tryz.underlying223)
 a45 := (run_o (Tryo.isAgg 223) Tryz.isAgg223)
 z45 := (run_o (Tryo.sizeOf 223) Tryz.sizeOf223)
 v45 := (run_o (Tryo.zeroValue 223) Tryz.zeroValue223)
 t46 := (und_o Tryz.underlying224)
 a46 := (run_o (Tryo.isAgg 224) Tryz.isAgg224)
 z46 := (run_o (Tryo.sizeOf 224) Tryz.sizeOf224)
 v46 := (run_o (Tryo.zeroValue 224) Tryz.zeroValue224)
 t50 := (und_o Tryz.underlying183)
 a50 := (run_o (Tryo.isAgg 183) Tryz.isAgg183)
 z50 := (run_o (Tryo.sizeOf 183) Tryz.sizeOf183)
 v50 := (run_o (Tryo.zeroValue 183) Tryz.zeroValue183)
 t53 := (und_o Tryz.underlying175)
 a53 := (run_o (Tryo.isAgg 175) Tryz.isAgg175)
 z53 := (run_o (Tryo.sizeOf 175) Tryz.sizeOf175)
 v53 := (run_o (Tryo.zeroValue 175) Tryz.zeroValue175)
 t55 := (und_o Tryz.underlying172)
 a55 := (run_o (Tryo.isAgg 172) Tryz.isAgg172)
 z55 := (run_o (Tryo.sizeOf 172) Tryz.sizeOf172)
 v55 := (run_o (Tryo.zeroValue 172) Tryz.zeroValue172)
 t66 := (und_o Tryz.underlying241)
 a66 := (run_o (Tryo.isAgg 241) Tryz.isAgg241)
 z66 := (run_o (Tryo.sizeOf 241) Tryz.sizeOf241)
 v66 := (run_o (Tryo.zeroValue 241) Tryz.zeroValue241)
 t70 := (und_o Tryz.underlying244)
 a70 := (run_o (Tryo.isAgg 244) Tryz.isAgg244)
 z70 := (run_o (Tryo.sizeOf 244) Tryz.sizeOf244)
 v70 := (run_o (Tryo.zeroValue 244) Tryz.zeroValue244)
 t76 := (und_o Tryz.underlying248)
 a76 := (run_o (Tryo.isAgg 248) Tryz.isAgg248)
 z76 := (run_o (Tryo.sizeOf 248) Tryz.sizeOf248)
 v76 := (run_o (Tryo.zeroValue 248) Tryz.zeroValue248)
 t77 := (und_o Tryz.underlying125)
 a77 := (run_o (Tryo.isAgg 125) Tryz.isAgg125)
 z77 := (run_o (Tryo.sizeOf 125) Tryz.sizeOf125)
 v77 := (run_o (Tryo.zeroValue 125) Tryz.zeroValue125) }
end Go.Proofs
