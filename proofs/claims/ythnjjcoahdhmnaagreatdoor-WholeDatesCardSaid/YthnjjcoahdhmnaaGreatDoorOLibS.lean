import Derived.Shelf.Small.Bits
import Derived.Shelf.Small.Wraps
import Derived.Shelf.Strconv.Itoa0
import Derived.Shelf.Strconv.Itoa1
import Derived.Shelf.LaysM
import Derived.Shelf.Strconv.Itoa2
import Derived.Shelf.Strconv.Itoa3
import Derived.Shelf.Bits.Mul64
import Derived.Test.YthnjjcoahdhmnaaGreatDoorOPo
set_option maxHeartbeats 8000000
set_option maxRecDepth 100000
namespace Go.Proofs
open Go.Shelf
def Tryz.Xb:Go.Shelf.Ren:=⟨fun|171=>55|243=>130|246=>193|283=>243|284=>244|285=>245|286=>246|129=>240|317=>279|318=>280|319=>281|320=>282|337=>309|338=>310|n=>n,fun|3=>3|9=>9|2=>2|4=>4|171=>240|0=>0|53=>237|37=>151|5=>5|173=>242|212=>267|51=>212|20=>20|213=>268|46=>197|232=>304|233=>305|n=>n,fun|17=>8|18=>11|19=>12|n=>n⟩
theorem Tryz.Xc:Go.Proofs.LaysM.n171 Tryo.prog Tryz.Xb:={
 mixed:=by kernel_rfl
 f129:=Tryo.func240.trans (congrArg some (by kernel_rfl))
 f171:=Tryo.func55.trans (congrArg some (by kernel_rfl))
 f243:=Tryo.func130.trans (congrArg some (by kernel_rfl))
 f246:=Tryo.func193.trans (congrArg some (by kernel_rfl))
 f283:=Tryo.func243.trans (congrArg some (by kernel_rfl))
 f284:=Tryo.func244.trans (congrArg some (by kernel_rfl))
 f285:=Tryo.func245.trans (congrArg some (by kernel_rfl))
 f286:=Tryo.func246.trans (congrArg some (by kernel_rfl))
 f317:=Tryo.func279.trans (congrArg some (by kernel_rfl))
 f318:=Tryo.func280.trans (congrArg some (by kernel_rfl))
 f319:=Tryo.func281.trans (congrArg some (by kernel_rfl))
 f320:=Tryo.func282.trans (congrArg some (by kernel_rfl))
 f337:=Tryo.func309.trans (congrArg some (by kernel_rfl))
 f338:=Tryo.func310.trans (congrArg some (by kernel_rfl))
 t0:=(aU Tryz.underlying0)
 a0:=(aM (Tryo.isAgg 0) Tryz.isAgg0)
 z0:=(aM (Tryo.sizeOf 0) Tryz.sizeOf0)
 v0:=(aM (Tryo.zeroValue 0) Tryz.zeroValue0)
 t2:=(aU Tryz.underlying2)
 a2:=(aM (Tryo.isAgg 2) Tryz.isAgg2)
 z2:=(aM (Tryo.sizeOf 2) Tryz.sizeOf2)
 v2:=(aM (Tryo.zeroValue 2) Tryz.zeroValue2)
 t3:=(aU Tryz.underlying3)
 a3:=(aM (Tryo.isAgg 3) Tryz.isAgg3)
 z3:=(aM (Tryo.sizeOf 3) Tryz.sizeOf3)
 v3:=(aM (Tryo.zeroValue 3) Tryz.zeroValue3)
 t4:=(aU Tryz.underlying4)
 a4:=(aM (Tryo.isAgg 4) Tryz.isAgg4)
 z4:=(aM (Tryo.sizeOf 4) Tryz.sizeOf4)
 v4:=(aM (Tryo.zeroValue 4) Tryz.zeroValue4)
 t5:=(aU Tryz.underlying5)
 a5:=(aM (Tryo.isAgg 5) Tryz.isAgg5)
 z5:=(aM (Tryo.sizeOf 5) Tryz.sizeOf5)
 v5:=(aM (Tryo.zeroValue 5) Tryz.zeroValue5)
 t9:=(aU Tryz.underlying9)
 a9:=(aM (Tryo.isAgg 9) Tryz.isAgg9)
 z9:=(aM (Tryo.sizeOf 9) Tryz.sizeOf9)
 v9:=(aM (Tryo.zeroValue 9) Tryz.zeroValue9)
 t20:=(aU Tryz.underlying20)
 a20:=(aM (Tryo.isAgg 20) Tryz.isAgg20)
 z20:=(aM (Tryo.sizeOf 20) Tryz.sizeOf20)
 v20:=(aM (Tryo.zeroValue 20) Tryz.zeroValue20)
 t37:=(aU Tryz.underlying151)
 a37:=(aM (Tryo.isAgg 151) Tryz.isAgg151)
 z37:=(aM (Tryo.sizeOf 151) Tryz.sizeOf151)
 v37:=(aM (Tryo.zeroValue 151) Tryz.zeroValue151)
 t46:=(aU Tryz.underlying197)
 a46:=(aM (Tryo.isAgg 197) Tryz.isAgg197)
 z46:=(aM (Tryo.sizeOf 197) Tryz.sizeOf197)
 v46:=(aM (Tryo.zeroValue 197) Tryz.zeroValue197)
 t51:=(aU Tryz.underlying212)
 a51:=(aM (Tryo.isAgg 212) Tryz.isAgg212)
 z51:=(aM (Tryo.sizeOf 212) Tryz.sizeOf212)
 v51:=(aM (Tryo.zeroValue 212) Tryz.zeroValue212)
 t53:=(aU Tryz.underlying237)
 a53:=(aM (Tryo.isAgg 237) Tryz.isAgg237)
 z53:=(aM (Tryo.sizeOf 237) Tryz.sizeOf237)
 v53:=(aM (Tryo.zeroValue 237) Tryz.zeroValue237)
 t171:=(aU Tryz.underlying240)
 a171:=(aM (Tryo.isAgg 240) Tryz.isAgg240)
 z171:=(aM (Tryo.sizeOf 240) Tryz.sizeOf240)
 v171:=(aM (Tryo.zeroValue 240) Tryz.zeroValue240)
 t173:=(aU Tryz.underlying242)
 a173:=(aM (Tryo.isAgg 242) Tryz.isAgg242)
 z173:=(aM (Tryo.sizeOf 242) Tryz.sizeOf242)
 v173:=(aM (Tryo.zeroValue 242) Tryz.zeroValue242)
 t212:=(aU Tryz.underlying267)
 a212:=(aM (Tryo.isAgg 267) Tryz.isAgg267)
 z212:=(aM (Tryo.sizeOf 267) Tryz.sizeOf267)
 v212:=(aM (Tryo.zeroValue 267) Tryz.zeroValue267)
 t213:=(aU Tryz.underlying268)
 a213:=(aM (Tryo.isAgg 268) Tryz.isAgg268)
 z213:=(aM (Tryo.sizeOf 268) Tryz.sizeOf268)
 t232:=(aU Tryz.underlying304)
 a232:=(aM (Tryo.isAgg 304) Tryz.isAgg304)
 z232:=(aM (Tryo.sizeOf 304) Tryz.sizeOf304)
 v232:=(aM (Tryo.zeroValue 304) Tryz.zeroValue304)
 t233:=(aU Tryz.underlying305)
 a233:=(aM (Tryo.isAgg 305) Tryz.isAgg305)
 z233:=(aM (Tryo.sizeOf 305) Tryz.sizeOf305)
 v233:=(aM (Tryo.zeroValue 305) Tryz.zeroValue305)
 g17:=by kernel_rfl
 g18:=by kernel_rfl
 g19:=by kernel_rfl
 i0:=by kernel_rfl
 i2:=by kernel_rfl
 i3:=by kernel_rfl
 i4:=by kernel_rfl
 i5:=by kernel_rfl
 i9:=by kernel_rfl
 i20:=by kernel_rfl
 i37:=by kernel_rfl
 i46:=by kernel_rfl
 i51:=by kernel_rfl
 i53:=by kernel_rfl
 i171:=by kernel_rfl
 i173:=by kernel_rfl
 i212:=by kernel_rfl
 i232:=by kernel_rfl
 i233:=by kernel_rfl
 m17:=by kernel_rfl
 m18:=by kernel_rfl
 m19:=by kernel_rfl}
open Go.RowKit Go.Sort Go.Lib in
theorem Tryz.strconv_Itoa(n:Int)(h0: -9223372036854775808<=n)(h1:n<=9223372036854775807)(w:World)(htab:Lib.TabIs Tryo.prog w "internal/strconv.uint64pow10" .u64 Lib.pow10Tab):
  Calls Tryo.prog 55 #[.int .i64 n] w fun e w'=>e= .returned (.string ⟨(Lib.itoa n).toArray⟩)/\∃k os,w'=grow (w.drewN k) os:=Any.strconv_Itoa Tryz.Xc n h0 h1 w htab
end Go.Proofs
