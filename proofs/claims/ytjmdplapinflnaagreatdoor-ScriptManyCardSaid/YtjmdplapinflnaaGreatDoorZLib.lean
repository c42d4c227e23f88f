import Derived.Shelf.SlicesE.Clone
import Derived.Shelf.SlSortCmp.NoneTotal
import Derived.Shelf.Small.Wraps
import Derived.Shelf.Bits.Mul64
import Derived.Test.YtjmdplapinflnaaGreatDoorZPo
set_option maxHeartbeats 8000000
set_option maxRecDepth 100000
namespace Go.Proofs
open Go.Shelf
def Tryz.Qg:Go.Shelf.Ren:=⟨fun|122=>227|215=>242|n=>n,fun|3=>3|4=>4|n=>n,fun|n=>n⟩
theorem Tryz.aau:Go.Proofs.Lays.n122 Tryo.prog Tryz.Qg:={
 mixed:=vK
 f122:=(vF Tryz.func227).trans (congrArg some vK)
 f215:=(vF Tryz.func242).trans (congrArg some vK)
 t3:=(aB Tryz.underlying3)
 a3:=(au (Tryo.isAgg 3) Tryz.isAgg3)
 z3:=(au (Tryo.sizeOf 3) Tryz.sizeOf3)
 v3:=(au (Tryo.zeroValue 3) Tryz.zeroValue3)
 t4:=(aB Tryz.underlying4)
 a4:=(au (Tryo.isAgg 4) Tryz.isAgg4)
 z4:=(au (Tryo.sizeOf 4) Tryz.sizeOf4)
 v4:=(au (Tryo.zeroValue 4) Tryz.zeroValue4)}
open Go.RowKit in
theorem Tryz.cmp_Compare_int(x y:Int)(w:World):
  Calls Tryo.prog 227 #[x,y] w fun e w'=>e= .returned (.int .i64 (Lib.compareInt x y))/\w'=w:=Any.cmp_Compare_int Tryz.aau x y w
def Tryz.Ox:Go.Shelf.Ren:=⟨fun|41=>200|n=>n,fun|22=>187|23=>191|4=>4|n=>n,fun|n=>n⟩
theorem Tryz.PV:Go.Proofs.SlLaysE0.n41 Tryo.prog Tryz.Ox:={
 mixed:=vK
 f41:=⟨Tryz.f200.name,vD,(vF Tryz.func200).trans (congrArg some vK)⟩
 t4:=(aB Tryz.underlying4)
 a4:=(au (Tryo.isAgg 4) Tryz.isAgg4)
 z4:=(au (Tryo.sizeOf 4) Tryz.sizeOf4)
 v4:=(au (Tryo.zeroValue 4) Tryz.zeroValue4)
 t22:=(aB Tryz.underlying187)
 a22:=(au (Tryo.isAgg 187) Tryz.isAgg187)
 z22:=(au (Tryo.sizeOf 187) Tryz.sizeOf187)
 v22:=(au (Tryo.zeroValue 187) Tryz.zeroValue187)}
def Tryz.PU:Go.Shelf.Ren:=⟨fun|6=>201|15=>226|14=>225|28=>241|29=>196|20=>233|21=>234|22=>235|23=>236|24=>237|25=>238|26=>239|27=>240|46=>243|47=>244|48=>245|49=>246|50=>247|57=>248|n=>n,fun|22=>187|24=>191|25=>246|3=>3|39=>179|0=>0|53=>182|55=>207|4=>4|46=>276|45=>275|50=>96|5=>5|9=>9|66=>281|70=>284|76=>286|77=>127|n=>n,fun|n=>n⟩
theorem Tryz.Ve:Go.Proofs.SlLaysF0.n6 Tryo.prog Tryz.PU:={
 mixed:=vK
 f6:=⟨Tryz.f201.name,vD,(vF Tryz.func201).trans (congrArg some vK)⟩
 f14:=⟨Tryz.f225.name,vD,(vF Tryz.func225).trans (congrArg some vK)⟩
 f15:=(vF Tryz.func226).trans (congrArg some vK)
 f20:=⟨Tryz.f233.name,vD,(vF Tryz.func233).trans (congrArg some vK)⟩
 f21:=⟨Tryz.f234.name,vD,(vF Tryz.func234).trans (congrArg some vK)⟩
 f22:=⟨Tryz.f235.name,vD,(vF Tryz.func235).trans (congrArg some vK)⟩
 f23:=⟨Tryz.f236.name,vD,(vF Tryz.func236).trans (congrArg some vK)⟩
 f24:=⟨Tryz.f237.name,vD,(vF Tryz.func237).trans (congrArg some vK)⟩
 f25:=⟨Tryz.f238.name,vD,(vF Tryz.func238).trans (congrArg some vK)⟩
 f26:=⟨Tryz.f239.name,vD,(vF Tryz.func239).trans (congrArg some vK)⟩
 f27:=⟨Tryz.f240.name,vD,(vF Tryz.func240).trans (congrArg some vK)⟩
 f28:=(vF Tryz.func241).trans (congrArg some vK)
 f29:=(vF Tryz.func196).trans (congrArg some vK)
 f46:=⟨Tryz.f243.name,vD,(vF Tryz.func243).trans (congrArg some vK)⟩
 f47:=(vF Tryz.func244).trans (congrArg some vK)
 f48:=(vF Tryz.func245).trans (congrArg some vK)
 f49:=⟨Tryz.f246.name,vD,(vF Tryz.func246).trans (congrArg some vK)⟩
 f50:=⟨Tryz.f247.name,vD,(vF Tryz.func247).trans (congrArg some vK)⟩
 f57:=⟨Tryz.f248.name,vD,(vF Tryz.func248).trans (congrArg some vK)⟩
 t0:=(aB Tryz.underlying0)
 a0:=(au (Tryo.isAgg 0) Tryz.isAgg0)
 z0:=(au (Tryo.sizeOf 0) Tryz.sizeOf0)
 v0:=(au (Tryo.zeroValue 0) Tryz.zeroValue0)
 t3:=(aB Tryz.underlying3)
 a3:=(au (Tryo.isAgg 3) Tryz.isAgg3)
 z3:=(au (Tryo.sizeOf 3) Tryz.sizeOf3)
 v3:=(au (Tryo.zeroValue 3) Tryz.zeroValue3)
 t4:=(aB Tryz.underlying4)
 a4:=(au (Tryo.isAgg 4) Tryz.isAgg4)
 z4:=(au (Tryo.sizeOf 4) Tryz.sizeOf4)
 v4:=(au (Tryo.zeroValue 4) Tryz.zeroValue4)
 t5:=(aB Tryz.underlying5)
 a5:=(au (Tryo.isAgg 5) Tryz.isAgg5)
 z5:=(au (Tryo.sizeOf 5) Tryz.sizeOf5)
 v5:=(au (Tryo.zeroValue 5) Tryz.zeroValue5)
 t9:=(aB Tryz.underlying9)
 a9:=(au (Tryo.isAgg 9) Tryz.isAgg9)
 z9:=(au (Tryo.sizeOf 9) Tryz.sizeOf9)
 v9:=(au (Tryo.zeroValue 9) Tryz.zeroValue9)
 t22:=(aB Tryz.underlying187)
 a22:=(au (Tryo.isAgg 187) Tryz.isAgg187)
 z22:=(au (Tryo.sizeOf 187) Tryz.sizeOf187)
 v22:=(au (Tryo.zeroValue 187) Tryz.zeroValue187)
 t25:=(aB Tryz.underlying246)
 a25:=(au (Tryo.isAgg 246) Tryz.isAgg246)
 z25:=(au (Tryo.sizeOf 246) Tryz.sizeOf246)
 v25:=(au (Tryo.zeroValue 246) Tryz.zeroValue246)
 t39:=(aB Tryz.underlying179)
 a39:=(au (Tryo.isAgg 179) Tryz.isAgg179)
 z39:=(au (Tryo.sizeOf 179) Tryz.sizeOf179)
 v39:=(au (Tryo.zeroValue 179) Tryz.zeroValue179)
 t45:=(aB Tryz.underlying275)
 a45:=(au (Tryo.isAgg 275) Tryz.isAgg275)
 z45:=(au (Tryo.sizeOf 275) Tryz.sizeOf275)
 v45:=(au (Tryo.zeroValue 275) Tryz.zeroValue275)
 t46:=(aB Tryz.underlying276)
 a46:=(au (Tryo.isAgg 276) Tryz.isAgg276)
 z46:=(au (Tryo.sizeOf 276) Tryz.sizeOf276)
 v46:=(au (Tryo.zeroValue 276) Tryz.zeroValue276)
 t50:=(aB Tryz.underlying96)
 a50:=(au (Tryo.isAgg 96) Tryz.isAgg96)
 z50:=(au (Tryo.sizeOf 96) Tryz.sizeOf96)
 v50:=(au (Tryo.zeroValue 96) Tryz.zeroValue96)
 t53:=(aB Tryz.underlying182)
 a53:=(au (Tryo.isAgg 182) Tryz.isAgg182)
 z53:=(au (Tryo.sizeOf 182) Tryz.sizeOf182)
 v53:=(au (Tryo.zeroValue 182) Tryz.zeroValue182)
 t55:=(aB Tryz.underlying207)
 a55:=(au (Tryo.isAgg 207) Tryz.isAgg207)
 z55:=(au (Tryo.sizeOf 207) Tryz.sizeOf207)
 v55:=(au (Tryo.zeroValue 207) Tryz.zeroValue207)
 t66:=(aB Tryz.underlying281)
 a66:=(au (Tryo.isAgg 281) Tryz.isAgg281)
 z66:=(au (Tryo.sizeOf 281) Tryz.sizeOf281)
 v66:=(au (Tryo.zeroValue 281) Tryz.zeroValue281)
 t70:=(aB Tryz.underlying284)
 a70:=(au (Tryo.isAgg 284) Tryz.isAgg284)
 z70:=(au (Tryo.sizeOf 284) Tryz.sizeOf284)
 v70:=(au (Tryo.zeroValue 284) Tryz.zeroValue284)
 t76:=(aB Tryz.underlying286)
 a76:=(au (Tryo.isAgg 286) Tryz.isAgg286)
 z76:=(au (Tryo.sizeOf 286) Tryz.sizeOf286)
 v76:=(au (Tryo.zeroValue 286) Tryz.zeroValue286)
 t77:=(aB Tryz.underlying127)
 a77:=(au (Tryo.isAgg 127) Tryz.isAgg127)
 z77:=(au (Tryo.sizeOf 127) Tryz.sizeOf127)
 v77:=(au (Tryo.zeroValue 127) Tryz.zeroValue127)}
end Go.Proofs
