/-
  DERIVED: THE SHELF's CONTRACTS AT THIS DUMP, IN PLAIN WORDS (tools/lay-plain.mjs out of 'TryzShelf.lean', which tools/lay-shelf.mjs wrote): THE SAME DECLARATIONS UNDER THE SAME NAMES: 'import', 'namespace', 'open', 'def', 'theorem' AND NOTHING ELSE: no command of the shelf's: FOR A HAND-IN. Each laying: the table of numbers ('.._ren') and one theorem, a field a fact of the dump's own or the kernel's comparison; each contract: ONE APPLICATION.
-/
import Derived.Shelf.SlGeneric
import Derived.Ground.SlgnProg
import Derived.Shelf.SlicesE.Clone
import Derived.Ground.SlsfProg
import Derived.Shelf.SlSortCmp.NoneTotal
import Derived.Shelf.Small.Bits
import Derived.Shelf.Small.Wraps
import Derived.Shelf.Strconv.Itoa0
import Derived.Shelf.Strings.Search1
import Derived.Shelf.Strings.Search2
import Derived.Shelf.Strings.Search3
import Derived.Shelf.Strings.Cut
import Derived.Shelf.Strings.Count
import Derived.Shelf.LaysM
import Derived.Shelf.Strings.Shaped
import Derived.Shelf.Strings.LastIndex
import Derived.Shelf.Bits.Mul64
import Derived.Shelf.Unicode.DecodeSlow
import Derived.Test.YtaaaalbgjpjgoaaGreatDoorVPo
namespace Go.Proofs
open Go.Shelf
def Tryz.lays122_ren : Go.Shelf.Ren := ⟨fun | 122 => 278 | 215 => 294 | n => n, fun | 3 => 3 | 4 => 4 | n => n, fun | n => n⟩
theorem Tryz.lays122 : Go.Proofs.Lays.n122 Tryo.prog Tryz.lays122_ren := {
  mixed := by kernel_rfl
  f122 := Tryo.func278.trans (congrArg some (by kernel_rfl))
  f215 := Tryo.func294.trans (congrArg some (by kernel_rfl))
  t3 := (und_o Tryz.underlying3)
  a3 := (run_o (Tryo.isAgg 3) Tryz.isAgg3)
  z3 := (run_o (Tryo.sizeOf 3) Tryz.sizeOf3)
  v3 := (run_o (Tryo.zeroValue 3) Tryz.zeroValue3)
  t4 := (und_o Tryz.underlying4)
  a4 := (run_o (Tryo.isAgg 4) Tryz.isAgg4)
  z4 := (run_o (Tryo.sizeOf 4) Tryz.sizeOf4)
  v4 := (run_o (Tryo.zeroValue 4) Tryz.zeroValue4) }
open Go.RowKit in
/-- cmp.Compare at int: "Compare returns -1 if x is less than y, 0 if x equals y, +1 if x is greater than y.": IT RETURNS 'Lib.compareInt x y'; the world is as it was. (LAID: no walk: one application.) -/
theorem Tryz.cmp_Compare_int (x y : Int) (w : World) :
    Calls Tryo.prog 278 #[.int .i64 x, .int .i64 y] w fun e w' => e = .returned (.int .i64 (Lib.compareInt x y)) ∧ w' = w := Any.cmp_Compare_int Tryz.lays122 x y w
def Tryz.layClone_ren : Go.Shelf.Ren := ⟨fun | 41 => 257 | n => n, fun | 22 => 99 | 23 => 165 | 4 => 4 | n => n, fun | n => n⟩
theorem Tryz.layClone : Go.Proofs.SlLaysE0.n41 Tryo.prog Tryz.layClone_ren := {
  mixed := by kernel_rfl
  f41 := ⟨Tryz.f257.name, by decide, Tryo.func257.trans (congrArg some (by kernel_rfl))⟩
  t4 := (und_o Tryz.underlying4)
  a4 := (run_o (Tryo.isAgg 4) Tryz.isAgg4)
  z4 := (run_o (Tryo.sizeOf 4) Tryz.sizeOf4)
  v4 := (run_o (Tryo.zeroValue 4) Tryz.zeroValue4)
  t22 := (und_o Tryz.underlying99)
  a22 := (run_o (Tryo.isAgg 99) Tryz.isAgg99)
  z22 := (run_o (Tryo.sizeOf 99) Tryz.sizeOf99)
  v22 := (run_o (Tryo.zeroValue 99) Tryz.zeroValue99) }
def Tryz.laySort_ren : Go.Shelf.Ren := ⟨fun | 6 => 258 | 15 => 277 | 14 => 276 | 28 => 293 | 29 => 268 | 20 => 285 | 21 => 286 | 22 => 287 | 23 => 288 | 24 => 289 | 25 => 290 | 26 => 291 | 27 => 292 | 46 => 295 | 47 => 296 | 48 => 297 | 49 => 298 | 50 => 299 | 57 => 300 | n => n, fun | 22 => 99 | 24 => 165 | 25 => 267 | 3 => 3 | 39 => 209 | 0 => 0 | 53 => 203 | 55 => 200 | 4 => 4 | 46 => 283 | 45 => 282 | 50 => 139 | 5 => 5 | 9 => 9 | 66 => 290 | 70 => 293 | 76 => 295 | 77 => 107 | n => n, fun | n => n⟩
theorem Tryz.laySort : Go.Proofs.SlLaysF0.n6 Tryo.prog Tryz.laySort_ren := {
  mixed := by kernel_rfl
  f6 := ⟨Tryz.f258.name, by decide, Tryo.func258.trans (congrArg some (by kernel_rfl))⟩
  f14 := ⟨Tryz.f276.name, by decide, Tryo.func276.trans (congrArg some (by kernel_rfl))⟩
  f15 := Tryo.func277.trans (congrArg some (by kernel_rfl))
  f20 := ⟨Tryz.f285.name, by decide, Tryo.func285.trans (congrArg some (by kernel_rfl))⟩
  f21 := ⟨Tryz.f286.name, by decide, Tryo.func286.trans (congrArg some (by kernel_rfl))⟩
  f22 := ⟨Tryz.f287.name, by decide, Tryo.func287.trans (congrArg some (by kernel_rfl))⟩
  f23 := ⟨Tryz.f288.name, by decide, Tryo.func288.trans (congrArg some (by kernel_rfl))⟩
  f24 := ⟨Tryz.f289.name, by decide, Tryo.func289.trans (congrArg some (by kernel_rfl))⟩
  f25 := ⟨Tryz.f290.name, by decide, Tryo.func290.trans (congrArg some (by kernel_rfl))⟩
  f26 := ⟨Tryz.f291.name, by decide, Tryo.func291.trans (congrArg some (by kernel_rfl))⟩
  f27 := ⟨Tryz.f292.name, by decide, Tryo.func292.trans (congrArg some (by kernel_rfl))⟩
  f28 := Tryo.func293.trans (congrArg some (by kernel_rfl))
  f29 := Tryo.func268.trans (congrArg some (by kernel_rfl))
  f46 := ⟨Tryz.f295.name, by decide, Tryo.func295.trans (congrArg some (by kernel_rfl))⟩
  f47 := Tryo.func296.trans (congrArg some (by kernel_rfl))
  f48 := Tryo.func297.trans (congrArg some (by kernel_rfl))
  f49 := ⟨Tryz.f298.name, by decide, Tryo.func298.trans (congrArg some (by kernel_rfl))⟩
  f50 := ⟨Tryz.f299.name, by decide, Tryo.func299.trans (congrArg some (by kernel_rfl))⟩
  f57 := ⟨Tryz.f300.name, by decide, Tryo.func300.trans (congrArg some (by kernel_rfl))⟩
  t0 := (und_o Tryz.underlying0)
  a0 := (run_o (Tryo.isAgg 0) Tryz.isAgg0)
  z0 := (run_o (Tryo.sizeOf 0) Tryz.sizeOf0)
  v0 := (run_o (Tryo.zeroValue 0) Tryz.zeroValue0)
  t3 := (und_o Tryz.underlying3)
  a3 := (run_o (Tryo.isAgg 3) Tryz.isAgg3)
  z3 := (run_o (Tryo.sizeOf 3) Tryz.sizeOf3)
  v3 := (run_o (Tryo.zeroValue 3) Tryz.zeroValue3)
  t4 := (und_o Tryz.underlying4)
  a4 := (run_o (Tryo.isAgg 4) Tryz.isAgg4)
  z4 := (run_o (Tryo.sizeOf 4) Tryz.sizeOf4)
  v4 := (run_o (Tryo.zeroValue 4) Tryz.zeroValue4)
  t5 := (und_o Tryz.underlying5)
  a5 := (run_o (Tryo.isAgg 5) Tryz.isAgg5)
  z5 := (run_o (Tryo.sizeOf 5) Tryz.sizeOf5)
  v5 := (run_o (Tryo.zeroValue 5) Tryz.zeroValue5)
  t9 := (und_o Tryz.underlying9)
  a9 := (run_o (Tryo.isAgg 9) Tryz.isAgg9)
  z9 := (run_o (Tryo.sizeOf 9) Tryz.sizeOf9)
  v9 := (run_o (Tryo.zeroValue 9) Tryz.zeroValue9)
  t22 := (und_o Tryz.underlying99)
  a22 := (run_o (Tryo.isAgg 99) Tryz.isAgg99)
  z22 := (run_o (Tryo.sizeOf 99) Tryz.sizeOf99)
  v22 := (run_o (Tryo.zeroValue 99) Tryz.zeroValue99)
  t25 := (und_o Tryz.underlying267)
  a25 := (run_o (Tryo.isAgg 267) Tryz.isAgg267)
  z25 := (run_o (Tryo.sizeOf 267) Tryz.sizeOf267)
  v25 := (run_o (Tryo.zeroValue 267) Tryz.zeroValue267)
  t39 := (und_o Tryz.underlying209)
  a39 := (run_o (Tryo.isAgg 209) Tryz.isAgg209)
  z39 := (run_o (Tryo.sizeOf 209) Tryz.sizeOf209)
  v39 := (run_o (Tryo.zeroValue 209) Tryz.zeroValue209)
  t45 := (und_o Tryz.underlying282)
  a45 := (run_o (Tryo.isAgg 282) Tryz.isAgg282)
  z45 := (run_o (Tryo.sizeOf 282) Tryz.sizeOf282)
  v45 := (run_o (Tryo.zeroValue 282) Tryz.zeroValue282)
  t46 := (und_o Tryz.underlying283)
  a46 := (run_o (Tryo.isAgg 283) Tryz.isAgg283)
  z46 := (run_o (Tryo.sizeOf 283) Tryz.sizeOf283)
  v46 := (run_o (Tryo.zeroValue 283) Tryz.zeroValue283)
  t50 := (und_o Tryz.underlying139)
  a50 := (run_o (Tryo.isAgg 139) Tryz.isAgg139)
  z50 := (run_o (Tryo.sizeOf 139) Tryz.sizeOf139)
  v50 := (run_o (Tryo.zeroValue 139) Tryz.zeroValue139)
  t53 := (und_o Tryz.underlying203)
  a53 := (run_o (Tryo.isAgg 203) Tryz.isAgg203)
  z53 := (run_o (Tryo.sizeOf 203) Tryz.sizeOf203)
  v53 := (run_o (Tryo.zeroValue 203) Tryz.zeroValue203)
  t55 := (und_o Tryz.underlying200)
  a55 := (run_o (Tryo.isAgg 200) Tryz.isAgg200)
  z55 := (run_o (Tryo.sizeOf 200) Tryz.sizeOf200)
  v55 := (run_o (Tryo.zeroValue 200) Tryz.zeroValue200)
  t66 := (und_o Tryz.underlying290)
  a66 := (run_o (Tryo.isAgg 290) Tryz.isAgg290)
  z66 := (run_o (Tryo.sizeOf 290) Tryz.sizeOf290)
  v66 := (run_o (Tryo.zeroValue 290) Tryz.zeroValue290)
  t70 := (und_o Tryz.underlying293)
  a70 := (run_o (Tryo.isAgg 293) Tryz.isAgg293)
  z70 := (run_o (Tryo.sizeOf 293) Tryz.sizeOf293)
  v70 := (run_o (Tryo.zeroValue 293) Tryz.zeroValue293)
  t76 := (und_o Tryz.underlying295)
  a76 := (run_o (Tryo.isAgg 295) Tryz.isAgg295)
  z76 := (run_o (Tryo.sizeOf 295) Tryz.sizeOf295)
  v76 := (run_o (Tryo.zeroValue 295) Tryz.zeroValue295)
  t77 := (und_o Tryz.underlying107)
  a77 := (run_o (Tryo.isAgg 107) Tryz.isAgg107)
  z77 := (run_o (Tryo.sizeOf 107) Tryz.sizeOf107)
  v77 := (run_o (Tryo.zeroValue 107) Tryz.zeroValue107) }
end Go.Proofs
