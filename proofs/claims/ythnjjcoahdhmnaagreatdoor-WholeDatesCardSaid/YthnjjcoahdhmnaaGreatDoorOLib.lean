import Derived.Shelf.SlGeneric
import Derived.Shelf.SlicesE.Clone
import Derived.Ground.SlsfProg
import Derived.Shelf.SlSortCmp.NoneTotal
import Derived.Shelf.Small.Bits
import Derived.Shelf.Small.Wraps
import Derived.Shelf.Strconv.Itoa0
import Derived.Shelf.Bits.Mul64
import Derived.Ground.SlgnProg
import Derived.Shelf.SlicesE.Equal
import Derived.Test.YthnjjcoahdhmnaaGreatDoorOPo
set_option maxHeartbeats 8000000
set_option maxRecDepth 100000
namespace Go.Proofs
open Go.Shelf
def Tryz.Ky:Go.Shelf.Ren:=⟨fun|122=>184|215=>241|n=>n,fun|3=>3|4=>4|n=>n,fun|n=>n⟩
theorem Tryz.UH:Go.Proofs.Lays.n122 Tryo.prog Tryz.Ky:={
 mixed:=by kernel_rfl
 f122:=Tryo.func184.trans (congrArg some (by kernel_rfl))
 f215:=Tryo.func241.trans (congrArg some (by kernel_rfl))
 t3:=(aU Tryz.underlying3)
 a3:=(aM (Tryo.isAgg 3) Tryz.isAgg3)
 z3:=(aM (Tryo.sizeOf 3) Tryz.sizeOf3)
 v3:=(aM (Tryo.zeroValue 3) Tryz.zeroValue3)
 t4:=(aU Tryz.underlying4)
 a4:=(aM (Tryo.isAgg 4) Tryz.isAgg4)
 z4:=(aM (Tryo.sizeOf 4) Tryz.sizeOf4)
 v4:=(aM (Tryo.zeroValue 4) Tryz.zeroValue4)}
open Go.RowKit in
theorem Tryz.cmp_Compare_int(x y:Int)(w:World):
  Calls Tryo.prog 184 #[.int .i64 x,.int .i64 y] w fun e w'=>e= .returned (.int .i64 (Lib.compareInt x y))/\w'=w:=Any.cmp_Compare_int Tryz.UH x y w
def Tryz.IE:Go.Shelf.Ren:=⟨fun|41=>111|n=>n,fun|22=>38|23=>72|4=>4|n=>n,fun|n=>n⟩
theorem Tryz.LC:Go.Proofs.SlLaysE0.n41 Tryo.prog Tryz.IE:={
 mixed:=by kernel_rfl
 f41:=⟨Tryz.f111.name,by decide,Tryo.func111.trans (congrArg some (by kernel_rfl))⟩
 t4:=(aU Tryz.underlying4)
 a4:=(aM (Tryo.isAgg 4) Tryz.isAgg4)
 z4:=(aM (Tryo.sizeOf 4) Tryz.sizeOf4)
 v4:=(aM (Tryo.zeroValue 4) Tryz.zeroValue4)
 t22:=(aU Tryz.underlying38)
 a22:=(aM (Tryo.isAgg 38) Tryz.isAgg38)
 z22:=(aM (Tryo.sizeOf 38) Tryz.sizeOf38)
 v22:=(aM (Tryo.zeroValue 38) Tryz.zeroValue38)}
def Tryz.KJ:Go.Shelf.Ren:=⟨fun|6=>112|15=>183|14=>182|28=>239|29=>240|20=>231|21=>232|22=>233|23=>234|24=>235|25=>236|26=>237|27=>238|46=>274|47=>275|48=>276|49=>277|50=>278|57=>308|n=>n,fun|22=>38|24=>72|25=>142|3=>3|39=>197|0=>0|53=>212|55=>237|4=>4|46=>230|45=>229|50=>106|5=>5|9=>9|66=>260|70=>264|76=>292|77=>115|n=>n,fun|n=>n⟩
theorem Tryz.PX:Go.Proofs.SlLaysF0.n6 Tryo.prog Tryz.KJ:={
 mixed:=by kernel_rfl
 f6:=⟨Tryz.f112.name,by decide,Tryo.func112.trans (congrArg some (by kernel_rfl))⟩
 f14:=⟨Tryz.f182.name,by decide,Tryo.func182.trans (congrArg some (by kernel_rfl))⟩
 f15:=Tryo.func183.trans (congrArg some (by kernel_rfl))
 f20:=⟨Tryz.f231.name,by decide,Tryo.func231.trans (congrArg some (by kernel_rfl))⟩
 f21:=⟨Tryz.f232.name,by decide,Tryo.func232.trans (congrArg some (by kernel_rfl))⟩
 f22:=⟨Tryz.f233.name,by decide,Tryo.func233.trans (congrArg some (by kernel_rfl))⟩
 f23:=⟨Tryz.f234.name,by decide,Tryo.func234.trans (congrArg some (by kernel_rfl))⟩
 f24:=⟨Tryz.f235.name,by decide,Tryo.func235.trans (congrArg some (by kernel_rfl))⟩
 f25:=⟨Tryz.f236.name,by decide,Tryo.func236.trans (congrArg some (by kernel_rfl))⟩
 f26:=⟨Tryz.f237.name,by decide,Tryo.func237.trans (congrArg some (by kernel_rfl))⟩
 f27:=⟨Tryz.f238.name,by decide,Tryo.func238.trans (congrArg some (by kernel_rfl))⟩
 f28:=Tryo.func239.trans (congrArg some (by kernel_rfl))
 f29:=Tryo.func240.trans (congrArg some (by kernel_rfl))
 f46:=⟨Tryz.f274.name,by decide,Tryo.func274.trans (congrArg some (by kernel_rfl))⟩
 f47:=Tryo.func275.trans (congrArg some (by kernel_rfl))
 f48:=Tryo.func276.trans (congrArg some (by kernel_rfl))
 f49:=⟨Tryz.f277.name,by decide,Tryo.func277.trans (congrArg some (by kernel_rfl))⟩
 f50:=⟨Tryz.f278.name,by decide,Tryo.func278.trans (congrArg some (by kernel_rfl))⟩
 f57:=⟨Tryz.f308.name,by decide,Tryo.func308.trans (congrArg some (by kernel_rfl))⟩
 t0:=(aU Tryz.underlying0)
 a0:=(aM (Tryo.isAgg 0) Tryz.isAgg0)
 z0:=(aM (Tryo.sizeOf 0) Tryz.sizeOf0)
 v0:=(aM (Tryo.zeroValue 0) Tryz.zeroValue0)
 t3:=(aU Tryz.underlying3)
 a3:=(aM (Tryo.isAgg 3) Tryz.isAgg3)
 z3:=(aM (Tryo.sizeOf 3) Tryz.sizeOf3)
 v3:=(aM (Tryo.zeroValue 3) Tryz.zeroValue3)
 t4:=(aU Tryz.underlying4)
 a4:=(aM (Tryo.isAgg 4) Tryz.isAgg4)
 z4:=(aM (Tryo.sizeOf 4) Tryz.sizeOf4)
 v4:=(aM (Tryo.zeroValue 4) Tryz.zeroValue4)
 t5:=(aU Tryz.underlying5)
 a5:=(aM (Tryo.isAgg 5) Tryz.isAgg5)
 z5:=(aM (Tryo.sizeOf 5) Tryz.sizeOf5)
 v5:=(aM (Tryo.zeroValue 5) Tryz.zeroValue5)
 t9:=(aU Tryz.underlying9)
 a9:=(aM (Tryo.isAgg 9) Tryz.isAgg9)
 z9:=(aM (Tryo.sizeOf 9) Tryz.sizeOf9)
 v9:=(aM (Tryo.zeroValue 9) Tryz.zeroValue9)
 t22:=(aU Tryz.underlying38)
 a22:=(aM (Tryo.isAgg 38) Tryz.isAgg38)
 z22:=(aM (Tryo.sizeOf 38) Tryz.sizeOf38)
 v22:=(aM (Tryo.zeroValue 38) Tryz.zeroValue38)
 t25:=(aU Tryz.underlying142)
 a25:=(aM (Tryo.isAgg 142) Tryz.isAgg142)
 z25:=(aM (Tryo.sizeOf 142) Tryz.sizeOf142)
 v25:=(aM (Tryo.zeroValue 142) Tryz.zeroValue142)
 t39:=(aU Tryz.underlying197)
 a39:=(aM (Tryo.isAgg 197) Tryz.isAgg197)
 z39:=(aM (Tryo.sizeOf 197) Tryz.sizeOf197)
 v39:=(aM (Tryo.zeroValue 197) Tryz.zeroValue197)
 t45:=(aU Tryz.underlying229)
 a45:=(aM (Tryo.isAgg 229) Tryz.isAgg229)
 z45:=(aM (Tryo.sizeOf 229) Tryz.sizeOf229)
 v45:=(aM (Tryo.zeroValue 229) Tryz.zeroValue229)
 t46:=(aU Tryz.underlying230)
 a46:=(aM (Tryo.isAgg 230) Tryz.isAgg230)
 z46:=(aM (Tryo.sizeOf 230) Tryz.sizeOf230)
 v46:=(aM (Tryo.zeroValue 230) Tryz.zeroValue230)
 t50:=(aU Tryz.underlying106)
 a50:=(aM (Tryo.isAgg 106) Tryz.isAgg106)
 z50:=(aM (Tryo.sizeOf 106) Tryz.sizeOf106)
 v50:=(aM (Tryo.zeroValue 106) Tryz.zeroValue106)
 t53:=(aU Tryz.underlying212)
 a53:=(aM (Tryo.isAgg 212) Tryz.isAgg212)
 z53:=(aM (Tryo.sizeOf 212) Tryz.sizeOf212)
 v53:=(aM (Tryo.zeroValue 212) Tryz.zeroValue212)
 t55:=(aU Tryz.underlying237)
 a55:=(aM (Tryo.isAgg 237) Tryz.isAgg237)
 z55:=(aM (Tryo.sizeOf 237) Tryz.sizeOf237)
 v55:=(aM (Tryo.zeroValue 237) Tryz.zeroValue237)
 t66:=(aU Tryz.underlying260)
 a66:=(aM (Tryo.isAgg 260) Tryz.isAgg260)
 z66:=(aM (Tryo.sizeOf 260) Tryz.sizeOf260)
 v66:=(aM (Tryo.zeroValue 260) Tryz.zeroValue260)
 t70:=(aU Tryz.underlying264)
 a70:=(aM (Tryo.isAgg 264) Tryz.isAgg264)
 z70:=(aM (Tryo.sizeOf 264) Tryz.sizeOf264)
 v70:=(aM (Tryo.zeroValue 264) Tryz.zeroValue264)
 t76:=(aU Tryz.underlying292)
 a76:=(aM (Tryo.isAgg 292) Tryz.isAgg292)
 z76:=(aM (Tryo.sizeOf 292) Tryz.sizeOf292)
 v76:=(aM (Tryo.zeroValue 292) Tryz.zeroValue292)
 t77:=(aU Tryz.underlying115)
 a77:=(aM (Tryo.isAgg 115) Tryz.isAgg115)
 z77:=(aM (Tryo.sizeOf 115) Tryz.sizeOf115)
 v77:=(aM (Tryo.zeroValue 115) Tryz.zeroValue115)}
end Go.Proofs
