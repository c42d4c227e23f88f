/-
  DERIVED: THE SHELF's CONTRACTS AT THIS DUMP, IN PLAIN WORDS (tools/lay-plain.mjs out of 'TryzShelf.lean', which tools/lay-shelf.mjs wrote): THE SAME DECLARATIONS UNDER THE SAME NAMES: 'import', 'namespace', 'open', 'def', 'theorem' AND NOTHING ELSE: no command of the shelf's: FOR A HAND-IN. Each laying: the table of numbers ('.._ren') and one theorem, a field a fact of the dump's own or the kernel's comparison; each contract: ONE APPLICATION.
-/
import Derived.Shelf.SlGeneric
import Derived.Ground.SlgnProg
import Derived.Shelf.SlicesE.Clone
import Derived.Ground.SlsfProg
import Derived.Shelf.SlSortCmp.NoneTotal
import Derived.Shelf.Small.Bits
import Derived.Shelf.Small.Wraps
import Derived.Shelf.Strconv.Itoa0
import Derived.Shelf.Bits.Mul64
import Derived.Ground.Names2Prog
import Derived.Shelf.Slices.SearchI
import Derived.Test.YtoofgalkchnpnaaGreatDoorZPo
namespace Go.Proofs
open Go.Shelf
def Tryz.lays122_ren : Go.Shelf.Ren := ⟨fun | 122 => 143 | 215 => 170 | n => n, fun | 3 => 3 | 4 => 4 | n => n, fun | n => n⟩
theorem Tryz.lays122 : Go.Proofs.Lays.n122 Tryo.prog Tryz.lays122_ren := {
  mixed := by kernel_rfl
  f122 := Tryo.func143.trans (congrArg some (by kernel_rfl))
  f215 := Tryo.func170.trans (congrArg some (by kernel_rfl))
  t3 := (und_o Tryz.underlying3)
  a3 := (run_o (Tryo.isAgg 3) Tryz.isAgg3)
  z3 := (run_o (Tryo.sizeOf 3) Tryz.sizeOf3)
  v3 := (run_o (Tryo.zeroValue 3) Tryz.zeroValue3)
  t4 := (und_o Tryz.underlying4)
  a4 := (run_o (Tryo.isAgg 4) Tryz.isAgg4)
  z4 := (run_o (Tryo.sizeOf 4) Tryz.sizeOf4)
  v4 := (run_o (Tryo.zeroValue 4) Tryz.zeroValue4) }
open Go.RowKit in
/-- cmp.Compare at int: "Compare returns -1 if x is less than y, 0 if x equals y, +1 if x is greater than y.": IT RETURNS 'Lib.compareInt x y'; the world is as it was. (LAID: no walk: one application.) -/
theorem Tryz.cmp_Compare_int (x y : Int) (w : World) :
    Calls Tryo.prog 143 #[.int .i64 x, .int .i64 y] w fun e w' => e = .returned (.int .i64 (Lib.compareInt x y)) ∧ w' = w := Any.cmp_Compare_int Tryz.lays122 x y w
def Tryz.layClone_ren : Go.Shelf.Ren := ⟨fun | 41 => 108 | n => n, fun | 22 => 58 | 23 => 62 | 4 => 4 | n => n, fun | n => n⟩
theorem Tryz.layClone : Go.Proofs.SlLaysE0.n41 Tryo.prog Tryz.layClone_ren := {
  mixed := by kernel_rfl
  f41 := ⟨Tryz.f108.name, by decide, Tryo.func108.trans (congrArg some (by kernel_rfl))⟩
  t4 := (und_o Tryz.underlying4)
  a4 := (run_o (Tryo.isAgg 4) Tryz.isAgg4)
  z4 := (run_o (Tryo.sizeOf 4) Tryz.sizeOf4)
  v4 := (run_o (Tryo.zeroValue 4) Tryz.zeroValue4)
  t22 := (und_o Tryz.underlying58)
  a22 := (run_o (Tryo.isAgg 58) Tryz.isAgg58)
  z22 := (run_o (Tryo.sizeOf 58) Tryz.sizeOf58)
  v22 := (run_o (Tryo.zeroValue 58) Tryz.zeroValue58) }
def Tryz.laySort_ren : Go.Shelf.Ren := ⟨fun | 6 => 109 | 15 => 142 | 14 => 141 | 28 => 168 | 29 => 169 | 20 => 160 | 21 => 161 | 22 => 162 | 23 => 163 | 24 => 164 | 25 => 165 | 26 => 166 | 27 => 167 | 46 => 177 | 47 => 178 | 48 => 179 | 49 => 180 | 50 => 181 | 57 => 185 | n => n, fun | 22 => 58 | 24 => 62 | 25 => 148 | 3 => 3 | 39 => 133 | 0 => 0 | 53 => 88 | 55 => 85 | 4 => 4 | 46 => 177 | 45 => 176 | 50 => 123 | 5 => 5 | 9 => 9 | 66 => 187 | 70 => 190 | 76 => 193 | 77 => 144 | n => n, fun | n => n⟩
theorem Tryz.laySort : Go.Proofs.SlLaysF0.n6 Tryo.prog Tryz.laySort_ren := {
  mixed := by kernel_rfl
  f6 := ⟨Tryz.f109.name, by decide, Tryo.func109.trans (congrArg some (by kernel_rfl))⟩
  f14 := ⟨Tryz.f141.name, by decide, Tryo.func141.trans (congrArg some (by kernel_rfl))⟩
  f15 := Tryo.func142.trans (congrArg some (by kernel_rfl))
  f20 := ⟨Tryz.f160.name, by decide, Tryo.func160.trans (congrArg some (by kernel_rfl))⟩
  f21 := ⟨Tryz.f161.name, by decide, Tryo.func161.trans (congrArg some (by kernel_rfl))⟩
  f22 := ⟨Tryz.f162.name, by decide, Tryo.func162.trans (congrArg some (by kernel_rfl))⟩
  f23 := ⟨Tryz.f163.name, by decide, Tryo.func163.trans (congrArg some (by kernel_rfl))⟩
  f24 := ⟨Tryz.f164.name, by decide, Tryo.func164.trans (congrArg some (by kernel_rfl))⟩
  f25 := ⟨Tryz.f165.name, by decide, Tryo.func165.trans (congrArg some (by kernel_rfl))⟩
  f26 := ⟨Tryz.f166.name, by decide, Tryo.func166.trans (congrArg some (by kernel_rfl))⟩
  f27 := ⟨Tryz.f167.name, by decide, Tryo.func167.trans (congrArg some (by kernel_rfl))⟩
  f28 := Tryo.func168.trans (congrArg some (by kernel_rfl))
  f29 := Tryo.func169.trans (congrArg some (by kernel_rfl))
  f46 := ⟨Tryz.f177.name, by decide, Tryo.func177.trans (congrArg some (by kernel_rfl))⟩
  f47 := Tryo.func178.trans (congrArg some (by kernel_rfl))
  f48 := Tryo.func179.trans (congrArg some (by kernel_rfl))
  f49 := ⟨Tryz.f180.name, by decide, Tryo.func180.trans (congrArg some (by kernel_rfl))⟩
  f50 := ⟨Tryz.f181.name, by decide, Tryo.func181.trans (congrArg some (by kernel_rfl))⟩
  f57 := ⟨Tryz.f185.name, by decide, Tryo.func185.trans (congrArg some (by kernel_rfl))⟩
  t0 := (und_o Tryz.underlying0)
  a0 := (run_o (Tryo.isAgg 0) Tryz.isAgg0)
  z0 := (run_o (Tryo.sizeOf 0) Tryz.sizeOf0)
  v0 := (run_o (Tryo.zeroValue 0) Tryz.zeroValue0)
  t3 := (und_o Tryz.underlying3)
  a3 := (run_o (Tryo.isAgg 3) Tryz.isAgg3)
  z3 := (run_o (Tryo.sizeOf 3) Tryz.sizeOf3)
  v3 := (run_o (Tryo.zeroValue 3) Tryz.zeroValue3)
  t4 := (und_o Tryz.underlying4)
  a4 := (run_o (Tryo.isAgg 4) Tryz.isAgg4)
  z4 := (run_o (Tryo.sizeOf 4) Tryz.sizeOf4)
  v4 := (run_o (Tryo.zeroValue 4) Tryz.zeroValue4)
  t5 := (und_o Tryz.underlying5)
  a5 := (run_o (Tryo.isAgg 5) Tryz.isAgg5)
  z5 := (run_o (Tryo.sizeOf 5) Tryz.sizeOf5)
  v5 := (run_o (Tryo.zeroValue 5) Tryz.zeroValue5)
  t9 := (und_o Tryz.underlying9)
  a9 := (run_o (Tryo.isAgg 9) Tryz.isAgg9)
  z9 := (run_o (Tryo.sizeOf 9) Tryz.sizeOf9)
  v9 := (run_o (Tryo.zeroValue 9) Tryz.zeroValue9)
  t22 := (und_o Tryz.underlying58)
  a22 := (run_o (Tryo.isAgg 58) Tryz.isAgg58)
  z22 := (run_o (Tryo.sizeOf 58) Tryz.sizeOf58)
  v22 := (run_o (Tryo.zeroValue 58) Tryz.zeroValue58)
  t25 := (und_o Tryz.underlying148)
  a25 := (run_o (Tryo.isAgg 148) Tryz.isAgg148)
  z25 := (run_o (Tryo.sizeOf 148) Tryz.sizeOf148)
  v25 := (run_o (Tryo.zeroValue 148) Tryz.zeroValue148)
  t39 := (und_o Tryz.underlying133)
  a39 := (run_o (Tryo.isAgg 133) Tryz.isAgg133)
  z39 := (run_o (Tryo.sizeOf 133) Tryz.sizeOf133)
  v39 := (run_o (Tryo.zeroValue 133) Tryz.zeroValue133)
  t45 := (und_o Tryz.underlying176)
  a45 := (run_o (Tryo.isAgg 176) Tryz.isAgg176)
  z45 := (run_o (Tryo.sizeOf 176) Tryz.sizeOf176)
  v45 := (run_o (Tryo.zeroValue 176) Tryz.zeroValue176)
  t46 := (und_o Tryz.underlying177)
  a46 := (run_o (Tryo.isAgg 177) Tryz.isAgg177)
  z46 := (run_o (Tryo.sizeOf 177) Tryz.sizeOf177)
  v46 := (run_o (Tryo.zeroValue 177) Tryz.zeroValue177)
  t50 := (und_o Tryz.underlying123)
  a50 := (run_o (Tryo.isAgg 123) Tryz.isAgg123)
  z50 := (run_o (Tryo.sizeOf 123) Tryz.sizeOf123)
  v50 := (run_o (Tryo.zeroValue 123) Tryz.zeroValue123)
  t53 := (und_o Tryz.underlying88)
  a53 := (run_o (Tryo.isAgg 88) Tryz.isAgg88)
  z53 := (run_o (Tryo.sizeOf 88) Tryz.sizeOf88)
  v53 := (run_o (Tryo.zeroValue 88) Tryz.zeroValue88)
  t55 := (und_o Tryz.underlying85)
  a55 := (run_o (Tryo.isAgg 85) Tryz.isAgg85)
  z55 := (run_o (Tryo.sizeOf 85) Tryz.sizeOf85)
  v55 := (run_o (Tryo.zeroValue 85) Tryz.zeroValue85)
  t66 := (und_o Tryz.underlying187)
  a66 := (run_o (Tryo.isAgg 187) Tryz.isAgg187)
  z66 := (run_o (Tryo.sizeOf 187) Tryz.sizeOf187)
  v66 := (run_o (Tryo.zeroValue 187) Tryz.zeroValue187)
  t70 := (und_o Tryz.underlying190)
  a70 := (run_o (Tryo.isAgg 190) Tryz.isAgg190)
  z70 := (run_o (Tryo.sizeOf 190) Tryz.sizeOf190)
  v70 := (run_o (Tryo.zeroValue 190) Tryz.zeroValue190)
  t76 := (und_o Tryz.underlying193)
  a76 := (run_o (Tryo.isAgg 193) Tryz.isAgg193)
  z76 := (run_o (Tryo.sizeOf 193) Tryz.sizeOf193)
  v76 := (run_o (Tryo.zeroValue 193) Tryz.zeroValue193)
  t77 := (und_o Tryz.underlying144)
  a77 := (run_o (Tryo.isAgg 144) Tryz.isAgg144)
  z77 := (run_o (Tryo.sizeOf 144) Tryz.sizeOf144)
  v77 := (run_o (Tryo.zeroValue 144) Tryz.zeroValue144) }
end Go.Proofs
