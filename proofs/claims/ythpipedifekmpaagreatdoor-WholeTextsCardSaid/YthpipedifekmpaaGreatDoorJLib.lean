import Derived.Shelf.SlGeneric
import Derived.Ground.SlgnProg
import Derived.Shelf.SlicesE.Clone
import Derived.Ground.SlsfProg
import Derived.Shelf.SlSortCmp.NoneTotal
import Derived.Shelf.Small.Bits
import Derived.Shelf.Small.Wraps
import Derived.Shelf.Strconv.Itoa0
import Derived.Shelf.Bits.Mul64
import Derived.Test.YthpipedifekmpaaGreatDoorJPo
set_option maxHeartbeats 8000000
set_option maxRecDepth 100000
namespace Go.Proofs
open Go.Shelf
def Tryz.lays122_ren:Go.Shelf.Ren:=⟨fun|122=>162|215=>180|n=>n,fun|3=>3|4=>4|n=>n,fun|n=>n⟩
theorem Tryz.lays122:Go.Proofs.Lays.n122 Tryo.prog Tryz.lays122_ren:={
 mixed:=by kernel_rfl
 f122:=Tryo.func162.trans (congrArg some (by kernel_rfl))
 f215:=Tryo.func180.trans (congrArg some (by kernel_rfl))
 t3:=(und_o Tryz.underlying3)
 a3:=(run_o (Tryo.isAgg 3) Tryz.isAgg3)
 z3:=(run_o (Tryo.sizeOf 3) Tryz.sizeOf3)
 v3:=(run_o (Tryo.zeroValue 3) Tryz.zeroValue3)
 t4:=(und_o Tryz.underlying4)
 a4:=(run_o (Tryo.isAgg 4) Tryz.isAgg4)
 z4:=(run_o (Tryo.sizeOf 4) Tryz.sizeOf4)
 v4:=(run_o (Tryo.zeroValue 4) Tryz.zeroValue4)}
open Go.RowKit in
theorem Tryz.cmp_Compare_int(x y:Int)(w:World):
  Calls Tryo.prog 162 #[.int .i64 x,.int .i64 y] w fun e w'=>e= .returned (.int .i64 (Lib.compareInt x y))/\w'=w:=Any.cmp_Compare_int Tryz.lays122 x y w
def Tryz.layClone_ren:Go.Shelf.Ren:=⟨fun|41=>133|n=>n,fun|22=>130|23=>134|4=>4|n=>n,fun|n=>n⟩
theorem Tryz.layClone:Go.Proofs.SlLaysE0.n41 Tryo.prog Tryz.layClone_ren:={
 mixed:=by kernel_rfl
 f41:=⟨Tryz.f133.name,by decide,Tryo.func133.trans (congrArg some (by kernel_rfl))⟩
 t4:=(und_o Tryz.underlying4)
 a4:=(run_o (Tryo.isAgg 4) Tryz.isAgg4)
 z4:=(run_o (Tryo.sizeOf 4) Tryz.sizeOf4)
 v4:=(run_o (Tryo.zeroValue 4) Tryz.zeroValue4)
 t22:=(und_o Tryz.underlying130)
 a22:=(run_o (Tryo.isAgg 130) Tryz.isAgg130)
 z22:=(run_o (Tryo.sizeOf 130) Tryz.sizeOf130)
 v22:=(run_o (Tryo.zeroValue 130) Tryz.zeroValue130)}
def Tryz.laySort_ren:Go.Shelf.Ren:=⟨fun|6=>134|15=>161|14=>160|28=>179|29=>122|20=>171|21=>172|22=>173|23=>174|24=>175|25=>176|26=>177|27=>178|46=>181|47=>182|48=>183|49=>184|50=>185|57=>186|n=>n,fun|22=>130|24=>134|25=>190|3=>3|39=>121|0=>0|53=>116|55=>145|4=>4|46=>224|45=>223|50=>51|5=>5|9=>9|66=>229|70=>232|76=>234|77=>71|n=>n,fun|n=>n⟩
theorem Tryz.laySort:Go.Proofs.SlLaysF0.n6 Tryo.prog Tryz.laySort_ren:={
 mixed:=by kernel_rfl
 f6:=⟨Tryz.f134.name,by decide,Tryo.func134.trans (congrArg some (by kernel_rfl))⟩
 f14:=⟨Tryz.f160.name,by decide,Tryo.func160.trans (congrArg some (by kernel_rfl))⟩
 f15:=Tryo.func161.trans (congrArg some (by kernel_rfl))
 f20:=⟨Tryz.f171.name,by decide,Tryo.func171.trans (congrArg some (by kernel_rfl))⟩
 f21:=⟨Tryz.f172.name,by decide,Tryo.func172.trans (congrArg some (by kernel_rfl))⟩
 f22:=⟨Tryz.f173.name,by decide,Tryo.func173.trans (congrArg some (by kernel_rfl))⟩
 f23:=⟨Tryz.f174.name,by decide,Tryo.func174.trans (congrArg some (by kernel_rfl))⟩
 f24:=⟨Tryz.f175.name,by decide,Tryo.func175.trans (congrArg some (by kernel_rfl))⟩
 f25:=⟨Tryz.f176.name,by decide,Tryo.func176.trans (congrArg some (by kernel_rfl))⟩
 f26:=⟨Tryz.f177.name,by decide,Tryo.func177.trans (congrArg some (by kernel_rfl))⟩
 f27:=⟨Tryz.f178.name,by decide,Tryo.func178.trans (congrArg some (by kernel_rfl))⟩
 f28:=Tryo.func179.trans (congrArg some (by kernel_rfl))
 f29:=Tryo.func122.trans (congrArg some (by kernel_rfl))
 f46:=⟨Tryz.f181.name,by decide,Tryo.func181.trans (congrArg some (by kernel_rfl))⟩
 f47:=Tryo.func182.trans (congrArg some (by kernel_rfl))
 f48:=Tryo.func183.trans (congrArg some (by kernel_rfl))
 f49:=⟨Tryz.f184.name,by decide,Tryo.func184.trans (congrArg some (by kernel_rfl))⟩
 f50:=⟨Tryz.f185.name,by decide,Tryo.func185.trans (congrArg some (by kernel_rfl))⟩
 f57:=⟨Tryz.f186.name,by decide,Tryo.func186.trans (congrArg some (by kernel_rfl))⟩
 t0:=(und_o Tryz.underlying0)
 a0:=(run_o (Tryo.isAgg 0) Tryz.isAgg0)
 z0:=(run_o (Tryo.sizeOf 0) Tryz.sizeOf0)
 v0:=(run_o (Tryo.zeroValue 0) Tryz.zeroValue0)
 t3:=(und_o Tryz.underlying3)
 a3:=(run_o (Tryo.isAgg 3) Tryz.isAgg3)
 z3:=(run_o (Tryo.sizeOf 3) Tryz.sizeOf3)
 v3:=(run_o (Tryo.zeroValue 3) Tryz.zeroValue3)
 t4:=(und_o Tryz.underlying4)
 a4:=(run_o (Tryo.isAgg 4) Tryz.isAgg4)
 z4:=(run_o (Tryo.sizeOf 4) Tryz.sizeOf4)
 v4:=(run_o (Tryo.zeroValue 4) Tryz.zeroValue4)
 t5:=(und_o Tryz.underlying5)
 a5:=(run_o (Tryo.isAgg 5) Tryz.isAgg5)
 z5:=(run_o (Tryo.sizeOf 5) Tryz.sizeOf5)
 v5:=(run_o (Tryo.zeroValue 5) Tryz.zeroValue5)
 t9:=(und_o Tryz.underlying9)
 a9:=(run_o (Tryo.isAgg 9) Tryz.isAgg9)
 z9:=(run_o (Tryo.sizeOf 9) Tryz.sizeOf9)
 v9:=(run_o (Tryo.zeroValue 9) Tryz.zeroValue9)
 t22:=(und_o Tryz.underlying130)
 a22:=(run_o (Tryo.isAgg 130) Tryz.isAgg130)
 z22:=(run_o (Tryo.sizeOf 130) Tryz.sizeOf130)
 v22:=(run_o (Tryo.zeroValue 130) Tryz.zeroValue130)
 t25:=(und_o Tryz.underlying190)
 a25:=(run_o (Tryo.isAgg 190) Tryz.isAgg190)
 z25:=(run_o (Tryo.sizeOf 190) Tryz.sizeOf190)
 v25:=(run_o (Tryo.zeroValue 190) Tryz.zeroValue190)
 t39:=(und_o Tryz.underlying121)
 a39:=(run_o (Tryo.isAgg 121) Tryz.isAgg121)
 z39:=(run_o (Tryo.sizeOf 121) Tryz.sizeOf121)
 v39:=(run_o (Tryo.zeroValue 121) Tryz.zeroValue121)
 t45:=(und_o Tryz.underlying223)
 a45:=(run_o (Tryo.isAgg 223) Tryz.isAgg223)
 z45:=(run_o (Tryo.sizeOf 223) Tryz.sizeOf223)
 v45:=(run_o (Tryo.zeroValue 223) Tryz.zeroValue223)
 t46:=(und_o Tryz.underlying224)
 a46:=(run_o (Tryo.isAgg 224) Tryz.isAgg224)
 z46:=(run_o (Tryo.sizeOf 224) Tryz.sizeOf224)
 v46:=(run_o (Tryo.zeroValue 224) Tryz.zeroValue224)
 t50:=(und_o Tryz.underlying51)
 a50:=(run_o (Tryo.isAgg 51) Tryz.isAgg51)
 z50:=(run_o (Tryo.sizeOf 51) Tryz.sizeOf51)
 v50:=(run_o (Tryo.zeroValue 51) Tryz.zeroValue51)
 t53:=(und_o Tryz.underlying116)
 a53:=(run_o (Tryo.isAgg 116) Tryz.isAgg116)
 z53:=(run_o (Tryo.sizeOf 116) Tryz.sizeOf116)
 v53:=(run_o (Tryo.zeroValue 116) Tryz.zeroValue116)
 t55:=(und_o Tryz.underlying145)
 a55:=(run_o (Tryo.isAgg 145) Tryz.isAgg145)
 z55:=(run_o (Tryo.sizeOf 145) Tryz.sizeOf145)
 v55:=(run_o (Tryo.zeroValue 145) Tryz.zeroValue145)
 t66:=(und_o Tryz.underlying229)
 a66:=(run_o (Tryo.isAgg 229) Tryz.isAgg229)
 z66:=(run_o (Tryo.sizeOf 229) Tryz.sizeOf229)
 v66:=(run_o (Tryo.zeroValue 229) Tryz.zeroValue229)
 t70:=(und_o Tryz.underlying232)
 a70:=(run_o (Tryo.isAgg 232) Tryz.isAgg232)
 z70:=(run_o (Tryo.sizeOf 232) Tryz.sizeOf232)
 v70:=(run_o (Tryo.zeroValue 232) Tryz.zeroValue232)
 t76:=(und_o Tryz.underlying234)
 a76:=(run_o (Tryo.isAgg 234) Tryz.isAgg234)
 z76:=(run_o (Tryo.sizeOf 234) Tryz.sizeOf234)
 v76:=(run_o (Tryo.zeroValue 234) Tryz.zeroValue234)
 t77:=(und_o Tryz.underlying71)
 a77:=(run_o (Tryo.isAgg 71) Tryz.isAgg71)
 z77:=(run_o (Tryo.sizeOf 71) Tryz.sizeOf71)
 v77:=(run_o (Tryo.zeroValue 71) Tryz.zeroValue71)}
end Go.Proofs
