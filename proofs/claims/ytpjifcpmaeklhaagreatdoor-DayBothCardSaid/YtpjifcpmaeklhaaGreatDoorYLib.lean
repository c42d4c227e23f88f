import Derived.Shelf.SlGeneric
import Derived.Ground.SlgnProg
import Derived.Shelf.SlicesE.Clone
import Derived.Ground.SlsfProg
import Derived.Shelf.SlSortCmp.NoneTotal
import Derived.Shelf.Small.Bits
import Derived.Shelf.Small.Wraps
import Derived.Shelf.Strconv.Itoa0
import Derived.Shelf.Bits.Mul64
import Derived.Test.YtpjifcpmaeklhaaGreatDoorYPo
set_option maxHeartbeats 8000000
set_option maxRecDepth 100000
namespace Go.Proofs
open Go.Shelf
def Tryz.lays122_ren : Go.Shelf.Ren := ⟨fun | 122 => 98 | 215 => 131 | n => n, fun | 3 => 3 | 4 => 4 | n => n, fun | n => n⟩
theorem Tryz.lays122 : Go.Proofs.Lays.n122 Tryo.prog Tryz.lays122_ren := {
 mixed := by kernel_rfl
 f122 := Tryo.func98.trans (congrArg some (by kernel_rfl))
 f215 := Tryo.func131.trans (congrArg some (by kernel_rfl))
 t3 := (und_o Tryz.underlying3)
 a3 := (run_o (Tryo.isAgg 3) Tryz.isAgg3)
 z3 := (run_o (Tryo.sizeOf 3) Tryz.sizeOf3)
 v3 := (run_o (Tryo.zeroValue 3) Tryz.zeroValue3)
 t4 := (und_o Tryz.underlying4)
 a4 := (run_o (Tryo.isAgg 4) Tryz.isAgg4)
 z4 := (run_o (Tryo.sizeOf 4) Tryz.sizeOf4)
 v4 := (run_o (Tryo.zeroValue 4) Tryz.zeroValue4) }
open Go.RowKit in
theorem Tryz.cmp_Compare_int (x y : Int) (w : World) :
  Calls Tryo.prog 98 #[.int .i64 x, .int .i64 y] w fun e w' => e = .returned (.int .i64 (Lib.compareInt x y)) ∧ w' = w := Any.cmp_Compare_int Tryz.lays122 x y w
def Tryz.layClone_ren : Go.Shelf.Ren := ⟨fun | 41 => 62 | n => n, fun | 22 => 41 | 23 => 45 | 4 => 4 | n => n, fun | n => n⟩
theorem Tryz.layClone : Go.Proofs.SlLaysE0.n41 Tryo.prog Tryz.layClone_ren := {
 mixed := by kernel_rfl
 f41 := ⟨Tryz.f62.name, by decide, Tryo.func62.trans (congrArg some (by kernel_rfl))⟩
 t4 := (und_o Tryz.underlying4)
 a4 := (run_o (Tryo.isAgg 4) Tryz.isAgg4)
 z4 := (run_o (Tryo.sizeOf 4) Tryz.sizeOf4)
 v4 := (run_o (Tryo.zeroValue 4) Tryz.zeroValue4)
 t22 := (und_o Tryz.underlying41)
 a22 := (run_o (Tryo.isAgg 41) Tryz.isAgg41)
 z22 := (run_o (Tryo.sizeOf 41) Tryz.sizeOf41)
 v22 := (run_o (Tryo.zeroValue 41) Tryz.zeroValue41) }
def Tryz.laySort_ren : Go.Shelf.Ren := ⟨fun | 6 => 63 | 15 => 97 | 14 => 96 | 28 => 129 | 29 => 130 | 20 => 121 | 21 => 122 | 22 => 123 | 23 => 124 | 24 => 125 | 25 => 126 | 26 => 127 | 27 => 128 | 46 => 148 | 47 => 149 | 48 => 150 | 49 => 151 | 50 => 152 | 57 => 174 | n => n, fun | 22 => 41 | 24 => 45 | 25 => 102 | 3 => 3 | 39 => 124 | 0 => 0 | 53 => 150 | 55 => 152 | 4 => 4 | 46 => 143 | 45 => 142 | 50 => 147 | 5 => 5 | 9 => 9 | 66 => 168 | 70 => 172 | 76 => 191 | 77 => 70 | n => n, fun | n => n⟩
theorem Tryz.laySort : Go.Proofs.SlLaysF0.n6 Tryo.prog Tryz.laySort_ren := {
 mixed := by kernel_rfl
 f6 := ⟨Tryz.f63.name, by decide, Tryo.func63.trans (congrArg some (by kernel_rfl))⟩
 f14 := ⟨Tryz.f96.name, by decide, Tryo.func96.trans (congrArg some (by kernel_rfl))⟩
 f15 := Tryo.func97.trans (congrArg some (by kernel_rfl))
 f20 := ⟨Tryz.f121.name, by decide, Tryo.func121.trans (congrArg some (by kernel_rfl))⟩
 f21 := ⟨Tryz.f122.name, by decide, Tryo.func122.trans (congrArg some (by kernel_rfl))⟩
 f22 := ⟨Tryz.f123.name, by decide, Tryo.func123.trans (congrArg some (by kernel_rfl))⟩
 f23 := ⟨Tryz.f124.name, by decide, Tryo.func124.trans (congrArg some (by kernel_rfl))⟩
 f24 := ⟨Tryz.f125.name, by decide, Tryo.func125.trans (congrArg some (by kernel_rfl))⟩
 f25 := ⟨Tryz.f126.name, by decide, Tryo.func126.trans (congrArg some (by kernel_rfl))⟩
 f26 := ⟨Tryz.f127.name, by decide, Tryo.func127.trans (congrArg some (by kernel_rfl))⟩
 f27 := ⟨Tryz.f128.name, by decide, Tryo.func128.trans (congrArg some (by kernel_rfl))⟩
 f28 := Tryo.func129.trans (congrArg some (by kernel_rfl))
 f29 := Tryo.func130.trans (congrArg some (by kernel_rfl))
 f46 := ⟨Tryz.f148.name, by decide, Tryo.func148.trans (congrArg some (by kernel_rfl))⟩
 f47 := Tryo.func149.trans (congrArg some (by kernel_rfl))
 f48 := Tryo.func150.trans (congrArg some (by kernel_rfl))
 f49 := ⟨Tryz.f151.name, by decide, Tryo.func151.trans (congrArg some (by kernel_rfl))⟩
 f50 := ⟨Tryz.f152.name, by decide, Tryo.func152.trans (congrArg some (by kernel_rfl))⟩
 f57 := ⟨Tryz.f174.name, by decide, Tryo.func174.trans (congrArg some (by kernel_rfl))⟩
 t0 := (und_o Tryz.underlying0)
 a0 := (run_o (Tryo.isAgg 0) Tryz.isAgg0)
 z0 := (run_o (Tryo.sizeOf 0) Tryz.sizeOf0)
 v0 := (run_o (Tryo.zeroValue 0) Tryz.zeroValue0)
 t3 := (und_o Tryz.underlying3)
 a3 := (run_o (Tryo.isAgg 3) Tryz.isAgg3)
 z3 := (run_o (Tryo.sizeOf 3) Tryz.sizeOf3)
 v3 := (run_o (Tryo.zeroValue 3) Tryz.zeroValue3)
 t4 := (und_o Tryz.underlying4)
 a4 := (run_o (Tryo.isAgg 4) Tryz.isAgg4)
 z4 := (run_o (Tryo.sizeOf 4) Tryz.sizeOf4)
 v4 := (run_o (Tryo.zeroValue 4) Tryz.zeroValue4)
 t5 := (und_o Tryz.underlying5)
 a5 := (run_o (Tryo.isAgg 5) Tryz.isAgg5)
 z5 := (run_o (Tryo.sizeOf 5) Tryz.sizeOf5)
 v5 := (run_o (Tryo.zeroValue 5) Tryz.zeroValue5)
 t9 := (und_o Tryz.underlying9)
 a9 := (run_o (Tryo.isAgg 9) Tryz.isAgg9)
 z9 := (run_o (Tryo.sizeOf 9) Tryz.sizeOf9)
 v9 := (run_o (Tryo.zeroValue 9) Tryz.zeroValue9)
 t22 := (und_o Tryz.underlying41)
 a22 := (run_o (Tryo.isAgg 41) Tryz.isAgg41)
 z22 := (run_o (Tryo.sizeOf 41) Tryz.sizeOf41)
 v22 := (run_o (Tryo.zeroValue 41) Tryz.zeroValue41)
 t25 := (und_o Tryz.underlying102)
 a25 := (run_o (Tryo.isAgg 102) Tryz.isAgg102)
 z25 := (run_o (Tryo.sizeOf 102) Tryz.sizeOf102)
 v25 := (run_o (Tryo.zeroValue 102) Tryz.zeroValue102)
 t39 := (und_o Tryz.underlying124)
 a39 := (run_o (Tryo.isAgg 124) Tryz.isAgg124)
 z39 := (run_o (Tryo.sizeOf 124) Tryz.sizeOf124)
 v39 := (run_o (Tryo.zeroValue 124) Tryz.zeroValue124)
 t45 := (und_o Tryz.underlying142)
 a45 := (run_o (Tryo.isAgg 142) Tryz.isAgg142)
 z45 := (run_o (Tryo.sizeOf 142) Tryz.sizeOf142)
 v45 := (run_o (Tryo.zeroValue 142) Tryz.zeroValue142)
 t46 := (und_o Tryz.underlying143)
 a46 := (run_o (Tryo.isAgg 143) Tryz.isAgg143)
 z46 := (run_o (Tryo.sizeOf 143) Tryz.sizeOf143)
 v46 := (run_o (Tryo.zeroValue 143) Tryz.zeroValue143)
 t50 := (und_o Tryz.underlying147)
 a50 := (run_o (Tryo.isAgg 147) Tryz.isAgg147)
 z50 := (run_o (Tryo.sizeOf 147) Tryz.sizeOf147)
 v50 := (run_o (Tryo.zeroValue 147) Tryz.zeroValue147)
 t53 := (und_o Tryz.underlying150)
 a53 := (run_o (Tryo.isAgg 150) Tryz.isAgg150)
 z53 := (run_o (Tryo.sizeOf 150) Tryz.sizeOf150)
 v53 := (run_o (Tryo.zeroValue 150) Tryz.zeroValue150)
 t55 := (und_o Tryz.underlying152)
 a55 := (run_o (Tryo.isAgg 152) Tryz.isAgg152)
 z55 := (run_o (Tryo.sizeOf 152) Tryz.sizeOf152)
 v55 := (run_o (Tryo.zeroValue 152) Tryz.zeroValue152)
 t66 := (und_o Tryz.underlying168)
 a66 := (run_o (Tryo.isAgg 168) Tryz.isAgg168)
 z66 := (run_o (Tryo.sizeOf 168) Tryz.sizeOf168)
 v66 := (run_o (Tryo.zeroValue 168) Tryz.zeroValue168)
 t70 := (und_o Tryz.underlying172)
 a70 := (run_o (Tryo.isAgg 172) Tryz.isAgg172)
 z70 := (run_o (Tryo.sizeOf 172) Tryz.sizeOf172)
 v70 := (run_o (Tryo.zeroValue 172) Tryz.zeroValue172)
 t76 := (und_o Tryz.underlying191)
 a76 := (run_o (Tryo.isAgg 191) Tryz.isAgg191)
 z76 := (run_o (Tryo.sizeOf 191) Tryz.sizeOf191)
 v76 := (run_o (Tryo.zeroValue 191) Tryz.zeroValue191)
 t77 := (und_o Tryz.underlying70)
 a77 := (run_o (Tryo.isAgg 70) Tryz.isAgg70)
 z77 := (run_o (Tryo.sizeOf 70) Tryz.sizeOf70)
 v77 := (run_o (Tryo.zeroValue 70) Tryz.zeroValue70) }
end Go.Proofs
