import Derived.Shelf.SlicesE.Clone
import Derived.Shelf.SlSortCmp.NoneTotal
import Derived.Shelf.Small.Wraps
import Derived.Shelf.Bits.Mul64
import Derived.Test.YtljbnicolhhicaaGreatDoorZPo
set_option maxHeartbeats 8000000
set_option maxRecDepth 100000
namespace Go.Proofs
open Go.Shelf
def Tryz.Qg:Go.Shelf.Ren:=⟨fun|122=>226|215=>241|n=>n,fun|3=>3|4=>4|n=>n,fun|n=>n⟩
theorem Tryz.aau:Go.Proofs.Lays.n122 Tryo.prog Tryz.Qg:={
 mixed:=vK
 f122:=(vF Tryz.func226).trans (congrArg some vK)
 f215:=(vF Tryz.func241).trans (congrArg some vK)
 t3:=(aB Tryz.underlying3)
 a3:=(au (Tryo.isAgg 3) Tryz.isAgg3)
 z3:=(au (Tryo.sizeOf 3) Tryz.sizeOf3)
 v3:=(au (Tryo.zeroValue 3) Tryz.zeroValue3)
 t4:=(aB Tryz.underlying4)
 a4:=(au (Tryo.isAgg 4) Tryz.isAgg4)
 z4:=(au (Tryo.sizeOf 4) Tryz.sizeOf4)
 v4:=(au (Tryo.zeroValue 4) Tryz.zeroValue4)}
open Go.RowKit in
theorem Tryz.cmp_Compare_int(x y:Int)(w:World):
  Calls Tryo.prog 226 #[x,y] w fun e w'=>e= .returned (.int .i64 (Lib.compareInt x y))/\w'=w:=Any.cmp_Compare_int Tryz.aau x y w
def Tryz.Ox:Go.Shelf.Ren:=⟨fun|41=>199|n=>n,fun|22=>185|23=>189|4=>4|n=>n,fun|n=>n⟩
theorem Tryz.PV:Go.Proofs.SlLaysE0.n41 Tryo.prog Tryz.Ox:={
 mixed:=vK
 f41:=⟨Tryz.f199.name,vD,(vF Tryz.func199).trans (congrArg some vK)⟩
 t4:=(aB Tryz.underlying4)
 a4:=(au (Tryo.isAgg 4) Tryz.isAgg4)
 z4:=(au (Tryo.sizeOf 4) Tryz.sizeOf4)
 v4:=(au (Tryo.zeroValue 4) Tryz.zeroValue4)
 t22:=(aB Tryz.underlying185)
 a22:=(au (Tryo.isAgg 185) Tryz.isAgg185)
 z22:=(au (Tryo.sizeOf 185) Tryz.sizeOf185)
 v22:=(au (Tryo.zeroValue 185) Tryz.zeroValue185)}
def Tryz.PU:Go.Shelf.Ren:=⟨fun|6=>200|15=>225|14=>224|28=>240|29=>195|20=>232|21=>233|22=>234|23=>235|24=>236|25=>237|26=>238|27=>239|46=>242|47=>243|48=>244|49=>245|50=>246|57=>247|n=>n,fun|22=>185|24=>189|25=>244|3=>3|39=>177|0=>0|53=>180|55=>205|4=>4|46=>274|45=>273|50=>94|5=>5|9=>9|66=>279|70=>282|76=>284|77=>125|n=>n,fun|n=>n⟩
theorem Tryz.Ve:Go.Proofs.SlLaysF0.n6 Tryo.prog Tryz.PU:={
 mixed:=vK
 f6:=⟨Tryz.f200.name,vD,(vF Tryz.func200).trans (congrArg some vK)⟩
 f14:=⟨Tryz.f224.name,vD,(vF Tryz.func224).trans (congrArg some vK)⟩
 f15:=(vF Tryz.func225).trans (congrArg some vK)
 f20:=⟨Tryz.f232.name,vD,(vF Tryz.func232).trans (congrArg some vK)⟩
 f21:=⟨Tryz.f233.name,vD,(vF Tryz.func233).trans (congrArg some vK)⟩
 f22:=⟨Tryz.f234.name,vD,(vF Tryz.func234).trans (congrArg some vK)⟩
 f23:=⟨Tryz.f235.name,vD,(vF Tryz.func235).trans (congrArg some vK)⟩
 f24:=⟨Tryz.f236.name,vD,(vF Tryz.func236).trans (congrArg some vK)⟩
 f25:=⟨Tryz.f237.name,vD,(vF Tryz.func237).trans (congrArg some vK)⟩
 f26:=⟨Tryz.f238.name,vD,(vF Tryz.func238).trans (congrArg some vK)⟩
 f27:=⟨Tryz.f239.name,vD,(vF Tryz.func239).trans (congrArg some vK)⟩
 f28:=(vF Tryz.func240).trans (congrArg some vK)
 f29:=(vF Tryz.func195).trans (congrArg some vK)
 f46:=⟨Tryz.f242.name,vD,(vF Tryz.func242).trans (congrArg some vK)⟩
 f47:=(vF Tryz.func243).trans (congrArg some vK)
 f48:=(vF Tryz.func244).trans (congrArg some vK)
 f49:=⟨Tryz.f245.name,vD,(vF Tryz.func245).trans (congrArg some vK)⟩
 f50:=⟨Tryz.f246.name,vD,(vF Tryz.func246).trans (congrArg some vK)⟩
 f57:=⟨Tryz.f247.name,vD,(vF Tryz.func247).trans (congrArg some vK)⟩
 t0:=(aB Tryz.underlying0)
 a0:=(au (Tryo.isAgg 0) Tryz.isAgg0)
 z0:=(au (Tryo.sizeOf 0) Tryz.sizeOf0)
 v0:=(au (Tryo.zeroValue 0) Tryz.zeroValue0)
 t3:=(aB Tryz.underlying3)
 a3:=(au (Tryo.isAgg 3) Tryz.isAgg3)
 z3:=(au (Tryo.sizeOf 3) Tryz.sizeOf3)
 v3:=(au (Tryo.zeroValue 3) Tryz.zeroValue3)
 t4:=(aB Tryz.underlying4)
 a4:=(au (Tryo.isAgg 4) Tryz.isAgg4)
 z4:=(au (Tryo.sizeOf 4) Tryz.sizeOf4)
 v4:=(au (Tryo.zeroValue 4) Tryz.zeroValue4)
 t5:=(aB Tryz.underlying5)
 a5:=(au (Tryo.isAgg 5) Tryz.isAgg5)
 z5:=(au (Tryo.sizeOf 5) Tryz.sizeOf5)
 v5:=(au (Tryo.zeroValue 5) Tryz.zeroValue5)
 t9:=(aB Tryz.underlying9)
 a9:=(au (Tryo.isAgg 9) Tryz.isAgg9)
 z9:=(au (Tryo.sizeOf 9) Tryz.sizeOf9)
 v9:=(au (Tryo.zeroValue 9) Tryz.zeroValue9)
 t22:=(aB Tryz.underlying185)
 a22:=(au (Tryo.isAgg 185) Tryz.isAgg185)
 z22:=(au (Tryo.sizeOf 185) Tryz.sizeOf185)
 v22:=(au (Tryo.zeroValue 185) Tryz.zeroValue185)
 t25:=(aB Tryz.underlying244)
 a25:=(au (Tryo.isAgg 244) Tryz.isAgg244)
 z25:=(au (Tryo.sizeOf 244) Tryz.sizeOf244)
 v25:=(au (Tryo.zeroValue 244) Tryz.zeroValue244)
 t39:=(aB Tryz.underlying177)
 a39:=(au (Tryo.isAgg 177) Tryz.isAgg177)
 z39:=(au (Tryo.sizeOf 177) Tryz.sizeOf177)
 v39:=(au (Tryo.zeroValue 177) Tryz.zeroValue177)
 t45:=(aB Tryz.underlying273)
 a45:=(au (Tryo.isAgg 273) Tryz.isAgg273)
 z45:=(au (Tryo.sizeOf 273) Tryz.sizeOf273)
 v45:=(au (Tryo.zeroValue 273) Tryz.zeroValue273)
 t46:=(aB Tryz.underlying274)
 a46:=(au (Tryo.isAgg 274) Tryz.isAgg274)
 z46:=(au (Tryo.sizeOf 274) Tryz.sizeOf274)
 v46:=(au (Tryo.zeroValue 274) Tryz.zeroValue274)
 t50:=(aB Tryz.underlying94)
 a50:=(au (Tryo.isAgg 94) Tryz.isAgg94)
 z50:=(au (Tryo.sizeOf 94) Tryz.sizeOf94)
 v50:=(au (Tryo.zeroValue 94) Tryz.zeroValue94)
 t53:=(aB Tryz.underlying180)
 a53:=(au (Tryo.isAgg 180) Tryz.isAgg180)
 z53:=(au (Tryo.sizeOf 180) Tryz.sizeOf180)
 v53:=(au (Tryo.zeroValue 180) Tryz.zeroValue180)
 t55:=(aB Tryz.underlying205)
 a55:=(au (Tryo.isAgg 205) Tryz.isAgg205)
 z55:=(au (Tryo.sizeOf 205) Tryz.sizeOf205)
 v55:=(au (Tryo.zeroValue 205) Tryz.zeroValue205)
 t66:=(aB Tryz.underlying279)
 a66:=(au (Tryo.isAgg 279) Tryz.isAgg279)
 z66:=(au (Tryo.sizeOf 279) Tryz.sizeOf279)
 v66:=(au (Tryo.zeroValue 279) Tryz.zeroValue279)
 t70:=(aB Tryz.underlying282)
 a70:=(au (Tryo.isAgg 282) Tryz.isAgg282)
 z70:=(au (Tryo.sizeOf 282) Tryz.sizeOf282)
 v70:=(au (Tryo.zeroValue 282) Tryz.zeroValue282)
 t76:=(aB Tryz.underlying284)
 a76:=(au (Tryo.isAgg 284) Tryz.isAgg284)
 z76:=(au (Tryo.sizeOf 284) Tryz.sizeOf284)
 v76:=(au (Tryo.zeroValue 284) Tryz.zeroValue284)
 t77:=(aB Tryz.underlying125)
 a77:=(au (Tryo.isAgg 125) Tryz.isAgg125)
 z77:=(au (Tryo.sizeOf 125) Tryz.sizeOf125)
 v77:=(au (Tryo.zeroValue 125) Tryz.zeroValue125)}
end Go.Proofs
