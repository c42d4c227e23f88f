import Derived.Shelf.Strings.Builder1
import Derived.Shelf.Strings.Builder2
import Derived.Shelf.Small.Bits
import Derived.Shelf.Small.Wraps
import Derived.Shelf.Utf8.RuneCount
import Derived.Shelf.Strconv.Itoa0
import Derived.Shelf.Strconv.Itoa1
import Derived.Shelf.LaysM
import Derived.Shelf.Strconv.Itoa2
import Derived.Shelf.Strconv.Itoa3
import Derived.Shelf.Strings.Search1
import Derived.Shelf.Strings.Search2
import Derived.Shelf.Strings.Search3
import Derived.Shelf.Strings.Cut
import Derived.Shelf.Strings.Count
import Derived.Shelf.Strings.Shaped
import Derived.Shelf.Strings.LastIndex
import Derived.Shelf.Strings.LastIndexAll
import Derived.Shelf.Strings.Split
import Derived.Shelf.Strings.Replace
import Derived.Shelf.Strings.SplitShaped
import Derived.Shelf.Unicode.Decode
import Derived.Shelf.Strings.RuneCount
import Derived.Shelf.Bits.Mul64
import Derived.Shelf.Unicode.DecodeSlow
import Derived.Shelf.Unicode.DecodeAny
import Derived.Ground.Names2Prog
import Derived.Shelf.Slices.SearchI
import Derived.Test.YthpipedifekmpaaGreatDoorJPo
set_option maxHeartbeats 8000000
set_option maxRecDepth 100000
namespace Go.Proofs
open Go.Shelf
def Tryz.laysM171_ren:Go.Shelf.Ren:=⟨fun|171=>16|243=>39|246=>66|283=>91|284=>92|285=>93|286=>94|129=>122|317=>121|318=>123|319=>124|320=>125|337=>156|338=>157|n=>n,fun|3=>3|9=>9|2=>2|4=>4|171=>144|0=>0|53=>145|37=>81|5=>5|173=>148|212=>177|51=>116|20=>20|213=>178|46=>121|232=>216|233=>217|n=>n,fun|17=>7|18=>10|19=>11|n=>n⟩
theorem Tryz.laysM171:Go.Proofs.LaysM.n171 Tryo.prog Tryz.laysM171_ren:={
 mixed:=by kernel_rfl
 f129:=Tryo.func122.trans (congrArg some (by kernel_rfl))
 f171:=Tryo.func16.trans (congrArg some (by kernel_rfl))
 f243:=Tryo.func39.trans (congrArg some (by kernel_rfl))
 f246:=Tryo.func66.trans (congrArg some (by kernel_rfl))
 f283:=Tryo.func91.trans (congrArg some (by kernel_rfl))
 f284:=Tryo.func92.trans (congrArg some (by kernel_rfl))
 f285:=Tryo.func93.trans (congrArg some (by kernel_rfl))
 f286:=Tryo.func94.trans (congrArg some (by kernel_rfl))
 f317:=Tryo.func121.trans (congrArg some (by kernel_rfl))
 f318:=Tryo.func123.trans (congrArg some (by kernel_rfl))
 f319:=Tryo.func124.trans (congrArg some (by kernel_rfl))
 f320:=Tryo.func125.trans (congrArg some (by kernel_rfl))
 f337:=Tryo.func156.trans (congrArg some (by kernel_rfl))
 f338:=Tryo.func157.trans (congrArg some (by kernel_rfl))
 t0:=(und_o Tryz.underlying0)
 a0:=(run_o (Tryo.isAgg 0) Tryz.isAgg0)
 z0:=(run_o (Tryo.sizeOf 0) Tryz.sizeOf0)
 v0:=(run_o (Tryo.zeroValue 0) Tryz.zeroValue0)
 t2:=(und_o Tryz.underlying2)
 a2:=(run_o (Tryo.isAgg 2) Tryz.isAgg2)
 z2:=(run_o (Tryo.sizeOf 2) Tryz.sizeOf2)
 v2:=(run_o (Tryo.zeroValue 2) Tryz.zeroValue2)
 t3:=(und_o Tryz.underlying3)
 a3:=(run_o (Tryo.isAgg 3) Tryz.isAgg3)
 z3:=(run_o (Tryo.sizeOf 3) Tryz.sizeOf3)
 v3:=(run_o (Tryo.zeroValue 3) Tryz.zeroValue3)
 t4:=(und_o Tryz.underlying4)
 a4:=(run_o (Tryo.isAgg 4) Tryz.isAgg4)
 z4:=(run_o (Tryo.sizeOf 4) Tryz.sizeOf4)
 v4:=(run_o (Tryo.zeroValue 4) Tryz.zeroValue4)
 t5:=(und_o Tryz.underlying5)
 a5:=(run_o (Tryo.isAgg 5) Tryz.isAgg5)
 z5:=(run_o (Tryo.sizeOf 5) Tryz.sizeOf5)
 v5:=(run_o (Tryo.zeroValue 5) Tryz.zeroValue5)
 t9:=(und_o Tryz.underlying9)
 a9:=(run_o (Tryo.isAgg 9) Tryz.isAgg9)
 z9:=(run_o (Tryo.sizeOf 9) Tryz.sizeOf9)
 v9:=(run_o (Tryo.zeroValue 9) Tryz.zeroValue9)
 t20:=(und_o Tryz.underlying20)
 a20:=(run_o (Tryo.isAgg 20) Tryz.isAgg20)
 z20:=(run_o (Tryo.sizeOf 20) Tryz.sizeOf20)
 v20:=(run_o (Tryo.zeroValue 20) Tryz.zeroValue20)
 t37:=(und_o Tryz.underlying81)
 a37:=(run_o (Tryo.isAgg 81) Tryz.isAgg81)
 z37:=(run_o (Tryo.sizeOf 81) Tryz.sizeOf81)
 v37:=(run_o (Tryo.zeroValue 81) Tryz.zeroValue81)
 t46:=(und_o Tryz.underlying121)
 a46:=(run_o (Tryo.isAgg 121) Tryz.isAgg121)
 z46:=(run_o (Tryo.sizeOf 121) Tryz.sizeOf121)
 v46:=(run_o (Tryo.zeroValue 121) Tryz.zeroValue121)
 t51:=(und_o Tryz.underlying116)
 a51:=(run_o (Tryo.isAgg 116) Tryz.isAgg116)
 z51:=(run_o (Tryo.sizeOf 116) Tryz.sizeOf116)
 v51:=(run_o (Tryo.zeroValue 116) Tryz.zeroValue116)
 t53:=(und_o Tryz.underlying145)
 a53:=(run_o (Tryo.isAgg 145) Tryz.isAgg145)
 z53:=(run_o (Tryo.sizeOf 145) Tryz.sizeOf145)
 v53:=(run_o (Tryo.zeroValue 145) Tryz.zeroValue145)
 t171:=(und_o Tryz.underlying144)
 a171:=(run_o (Tryo.isAgg 144) Tryz.isAgg144)
 z171:=(run_o (Tryo.sizeOf 144) Tryz.sizeOf144)
 v171:=(run_o (Tryo.zeroValue 144) Tryz.zeroValue144)
 t173:=(und_o Tryz.underlying148)
 a173:=(run_o (Tryo.isAgg 148) Tryz.isAgg148)
 z173:=(run_o (Tryo.sizeOf 148) Tryz.sizeOf148)
 v173:=(run_o (Tryo.zeroValue 148) Tryz.zeroValue148)
 t212:=(und_o Tryz.underlying177)
 a212:=(run_o (Tryo.isAgg 177) Tryz.isAgg177)
 z212:=(run_o (Tryo.sizeOf 177) Tryz.sizeOf177)
 v212:=(run_o (Tryo.zeroValue 177) Tryz.zeroValue177)
 t213:=(und_o Tryz.underlying178)
 a213:=(run_o (Tryo.isAgg 178) Tryz.isAgg178)
 z213:=(run_o (Tryo.sizeOf 178) Tryz.sizeOf178)
 t232:=(und_o Tryz.underlying216)
 a232:=(run_o (Tryo.isAgg 216) Tryz.isAgg216)
 z232:=(run_o (Tryo.sizeOf 216) Tryz.sizeOf216)
 v232:=(run_o (Tryo.zeroValue 216) Tryz.zeroValue216)
 t233:=(und_o Tryz.underlying217)
 a233:=(run_o (Tryo.isAgg 217) Tryz.isAgg217)
 z233:=(run_o (Tryo.sizeOf 217) Tryz.sizeOf217)
 v233:=(run_o (Tryo.zeroValue 217) Tryz.zeroValue217)
 g17:=by kernel_rfl
 g18:=by kernel_rfl
 g19:=by kernel_rfl
 i0:=by kernel_rfl
 i2:=by kernel_rfl
 i3:=by kernel_rfl
 i4:=by kernel_rfl
 i5:=by kernel_rfl
 i9:=by kernel_rfl
 i20:=by kernel_rfl
 i37:=by kernel_rfl
 i46:=by kernel_rfl
 i51:=by kernel_rfl
 i53:=by kernel_rfl
 i171:=by kernel_rfl
 i173:=by kernel_rfl
 i212:=by kernel_rfl
 i232:=by kernel_rfl
 i233:=by kernel_rfl
 m17:=by kernel_rfl
 m18:=by kernel_rfl
 m19:=by kernel_rfl}
open Go.RowKit Go.Sort Go.Lib in
theorem Tryz.strconv_Itoa(n:Int)(h0: -9223372036854775808<=n)(h1:n<=9223372036854775807)(w:World)(htab:Lib.TabIs Tryo.prog w "internal/strconv.uint64pow10" .u64 Lib.pow10Tab):
  Calls Tryo.prog 16 #[.int .i64 n] w fun e w'=>e= .returned (.string ⟨(Lib.itoa n).toArray⟩)/\∃k os,w'=grow (w.drewN k) os:=Any.strconv_Itoa Tryz.laysM171 n h0 h1 w htab
def Tryz.lays145_ren:Go.Shelf.Ren:=⟨fun|145=>21|220=>42|219=>73|217=>100|225=>101|224=>102|267=>103|266=>128|314=>129|n=>n,fun|9=>9|4=>4|59=>55|3=>3|5=>5|46=>121|146=>117|51=>116|n=>n,fun|1=>3|n=>n⟩
theorem Tryz.lays145:Go.Proofs.Lays.n145 Tryo.prog Tryz.lays145_ren:={
 mixed:=by kernel_rfl
 f145:=Tryo.func21.trans (congrArg some (by kernel_rfl))
 f217:=Tryo.func100.trans (congrArg some (by kernel_rfl))
 f219:=Tryo.func73.trans (congrArg some (by kernel_rfl))
 f220:=Tryo.func42.trans (congrArg some (by kernel_rfl))
 f224:=Tryo.func102.trans (congrArg some (by kernel_rfl))
 f225:=Tryo.func101.trans (congrArg some (by kernel_rfl))
 f266:=Tryo.func128.trans (congrArg some (by kernel_rfl))
 f267:=Tryo.func103.trans (congrArg some (by kernel_rfl))
 f314:=Tryo.func129.trans (congrArg some (by kernel_rfl))
 t3:=(und_o Tryz.underlying3)
 a3:=(run_o (Tryo.isAgg 3) Tryz.isAgg3)
 z3:=(run_o (Tryo.sizeOf 3) Tryz.sizeOf3)
 v3:=(run_o (Tryo.zeroValue 3) Tryz.zeroValue3)
 t4:=(und_o Tryz.underlying4)
 a4:=(run_o (Tryo.isAgg 4) Tryz.isAgg4)
 z4:=(run_o (Tryo.sizeOf 4) Tryz.sizeOf4)
 v4:=(run_o (Tryo.zeroValue 4) Tryz.zeroValue4)
 t5:=(und_o Tryz.underlying5)
 a5:=(run_o (Tryo.isAgg 5) Tryz.isAgg5)
 z5:=(run_o (Tryo.sizeOf 5) Tryz.sizeOf5)
 v5:=(run_o (Tryo.zeroValue 5) Tryz.zeroValue5)
 t9:=(und_o Tryz.underlying9)
 a9:=(run_o (Tryo.isAgg 9) Tryz.isAgg9)
 z9:=(run_o (Tryo.sizeOf 9) Tryz.sizeOf9)
 v9:=(run_o (Tryo.zeroValue 9) Tryz.zeroValue9)
 t46:=(und_o Tryz.underlying121)
 a46:=(run_o (Tryo.isAgg 121) Tryz.isAgg121)
 z46:=(run_o (Tryo.sizeOf 121) Tryz.sizeOf121)
 v46:=(run_o (Tryo.zeroValue 121) Tryz.zeroValue121)
 t51:=(und_o Tryz.underlying116)
 a51:=(run_o (Tryo.isAgg 116) Tryz.isAgg116)
 z51:=(run_o (Tryo.sizeOf 116) Tryz.sizeOf116)
 v51:=(run_o (Tryo.zeroValue 116) Tryz.zeroValue116)
 t59:=(und_o Tryz.underlying55)
 a59:=(run_o (Tryo.isAgg 55) Tryz.isAgg55)
 z59:=(run_o (Tryo.sizeOf 55) Tryz.sizeOf55)
 v59:=(run_o (Tryo.zeroValue 55) Tryz.zeroValue55)
 t146:=(und_o Tryz.underlying117)
 a146:=(run_o (Tryo.isAgg 117) Tryz.isAgg117)
 z146:=(run_o (Tryo.sizeOf 117) Tryz.sizeOf117)
 v146:=(run_o (Tryo.zeroValue 117) Tryz.zeroValue117)
 g1:=by kernel_rfl}
open Go.RowKit Go.Lib in
theorem Tryz.strings_Cut(s sep:ByteArray)(m:Int)(w:World)(hs:s.size<4294967281)(hm:w.cell? ⟨3,0,none⟩=some (.int .i64 m)):
  Calls Tryo.prog 21 #[.string s,.string sep] w fun e w'=>e= .returned (.tuple #[.string ⟨(Lib.cut s.data.toList sep.data.toList).1.toArray⟩,.string ⟨(Lib.cut s.data.toList sep.data.toList).2.1.toArray⟩,.bool (Lib.cut s.data.toList sep.data.toList).2.2])/\∃n,w'=w.drewN n:=Any.strings_Cut Tryz.lays145 s sep m w hs hm
def Tryz.lays148_ren:Go.Shelf.Ren:=⟨fun|148=>22|222=>43|223=>44|269=>74|n=>n,fun|9=>9|3=>3|4=>4|5=>5|146=>117|51=>116|46=>121|n=>n,fun|n=>n⟩
theorem Tryz.lays148:Go.Proofs.Lays.n148 Tryo.prog Tryz.lays148_ren:={
 mixed:=by kernel_rfl
 f148:=Tryo.func22.trans (congrArg some (by kernel_rfl))
 f222:=Tryo.func43.trans (congrArg some (by kernel_rfl))
 f223:=Tryo.func44.trans (congrArg some (by kernel_rfl))
 f269:=Tryo.func74.trans (congrArg some (by kernel_rfl))
 t3:=(und_o Tryz.underlying3)
 a3:=(run_o (Tryo.isAgg 3) Tryz.isAgg3)
 z3:=(run_o (Tryo.sizeOf 3) Tryz.sizeOf3)
 v3:=(run_o (Tryo.zeroValue 3) Tryz.zeroValue3)
 t4:=(und_o Tryz.underlying4)
 a4:=(run_o (Tryo.isAgg 4) Tryz.isAgg4)
 z4:=(run_o (Tryo.sizeOf 4) Tryz.sizeOf4)
 v4:=(run_o (Tryo.zeroValue 4) Tryz.zeroValue4)
 t5:=(und_o Tryz.underlying5)
 a5:=(run_o (Tryo.isAgg 5) Tryz.isAgg5)
 z5:=(run_o (Tryo.sizeOf 5) Tryz.sizeOf5)
 v5:=(run_o (Tryo.zeroValue 5) Tryz.zeroValue5)
 t9:=(und_o Tryz.underlying9)
 a9:=(run_o (Tryo.isAgg 9) Tryz.isAgg9)
 z9:=(run_o (Tryo.sizeOf 9) Tryz.sizeOf9)
 v9:=(run_o (Tryo.zeroValue 9) Tryz.zeroValue9)
 t46:=(und_o Tryz.underlying121)
 a46:=(run_o (Tryo.isAgg 121) Tryz.isAgg121)
 z46:=(run_o (Tryo.sizeOf 121) Tryz.sizeOf121)
 v46:=(run_o (Tryo.zeroValue 121) Tryz.zeroValue121)
 t51:=(und_o Tryz.underlying116)
 a51:=(run_o (Tryo.isAgg 116) Tryz.isAgg116)
 z51:=(run_o (Tryo.sizeOf 116) Tryz.sizeOf116)
 v51:=(run_o (Tryo.zeroValue 116) Tryz.zeroValue116)
 t146:=(und_o Tryz.underlying117)
 a146:=(run_o (Tryo.isAgg 117) Tryz.isAgg117)
 z146:=(run_o (Tryo.sizeOf 117) Tryz.sizeOf117)
 v146:=(run_o (Tryo.zeroValue 117) Tryz.zeroValue117)}
open Go.RowKit Go.Lib in
theorem Tryz.strings_LastIndex_one(s sub:ByteArray)(h1:sub.size=1)(hs:s.size<4611686018427387904)(w:World):
  Calls Tryo.prog 22 #[.string s,.string sub] w fun e w'=>e= .returned (.int .i64 (Lib.lastIndexByte s ((sub[0]'(by omega)).toNat:Int)))/\w'=w:=Any.strings_LastIndex_one Tryz.lays148 s sub h1 hs w
def Tryz.lays155_ren:Go.Shelf.Ren:=⟨fun|155=>17|154=>40|138=>67|165=>68|143=>69|166=>70|197=>71|169=>72|195=>95|218=>96|240=>97|241=>98|219=>73|260=>99|276=>126|277=>127|217=>100|225=>101|224=>102|267=>103|266=>128|314=>129|n=>n,fun|9=>9|3=>3|4=>4|72=>108|0=>0|76=>111|105=>113|21=>21|5=>5|70=>106|20=>20|37=>81|75=>110|127=>151|164=>180|46=>121|119=>183|139=>186|138=>185|146=>117|51=>116|80=>115|n=>n,fun|1=>3|3=>8|4=>9|n=>n⟩
theorem Tryz.lays155:Go.Proofs.Lays.n155 Tryo.prog Tryz.lays155_ren:={
 mixed:=by kernel_rfl
 f138:=Tryo.func67.trans (congrArg some (by kernel_rfl))
 f143:=Tryo.func69.trans (congrArg some (by kernel_rfl))
 f154:=Tryo.func40.trans (congrArg some (by kernel_rfl))
 f155:=Tryo.func17.trans (congrArg some (by kernel_rfl))
 f165:=Tryo.func68.trans (congrArg some (by kernel_rfl))
 f166:=Tryo.func70.trans (congrArg some (by kernel_rfl))
 f169:=Tryo.func72.trans (congrArg some (by kernel_rfl))
 f195:=Tryo.func95.trans (congrArg some (by kernel_rfl))
 f197:=Tryo.func71.trans (congrArg some (by kernel_rfl))
 f217:=Tryo.func100.trans (congrArg some (by kernel_rfl))
 f218:=Tryo.func96.trans (congrArg some (by kernel_rfl))
 f219:=Tryo.func73.trans (congrArg some (by kernel_rfl))
 f224:=Tryo.func102.trans (congrArg some (by kernel_rfl))
 f225:=Tryo.func101.trans (congrArg some (by kernel_rfl))
 f240:=Tryo.func97.trans (congrArg some (by kernel_rfl))
 f241:=Tryo.func98.trans (congrArg some (by kernel_rfl))
 f260:=Tryo.func99.trans (congrArg some (by kernel_rfl))
 f266:=Tryo.func128.trans (congrArg some (by kernel_rfl))
 f267:=Tryo.func103.trans (congrArg some (by kernel_rfl))
 f276:=Tryo.func126.trans (congrArg some (by kernel_rfl))
 f277:=Tryo.func127.trans (congrArg some (by kernel_rfl))
 f314:=Tryo.func129.trans (congrArg some (by kernel_rfl))
 t0:=(und_o Tryz.underlying0)
 a0:=(run_o (Tryo.isAgg 0) Tryz.isAgg0)
 z0:=(run_o (Tryo.sizeOf 0) Tryz.sizeOf0)
 v0:=(run_o (Tryo.zeroValue 0) Tryz.zeroValue0)
 t3:=(und_o Tryz.underlying3)
 a3:=(run_o (Tryo.isAgg 3) Tryz.isAgg3)
 z3:=(run_o (Tryo.sizeOf 3) Tryz.sizeOf3)
 v3:=(run_o (Tryo.zeroValue 3) Tryz.zeroValue3)
 t4:=(und_o Tryz.underlying4)
 a4:=(run_o (Tryo.isAgg 4) Tryz.isAgg4)
 z4:=(run_o (Tryo.sizeOf 4) Tryz.sizeOf4)
 v4:=(run_o (Tryo.zeroValue 4) Tryz.zeroValue4)
 t5:=(und_o Tryz.underlying5)
 a5:=(run_o (Tryo.isAgg 5) Tryz.isAgg5)
 z5:=(run_o (Tryo.sizeOf 5) Tryz.sizeOf5)
 v5:=(run_o (Tryo.zeroValue 5) Tryz.zeroValue5)
 t9:=(und_o Tryz.underlying9)
 a9:=(run_o (Tryo.isAgg 9) Tryz.isAgg9)
 z9:=(run_o (Tryo.sizeOf 9) Tryz.sizeOf9)
 v9:=(run_o (Tryo.zeroValue 9) Tryz.zeroValue9)
 t20:=(und_o Tryz.underlying20)
 a20:=(run_o (Tryo.isAgg 20) Tryz.isAgg20)
 z20:=(run_o (Tryo.sizeOf 20) Tryz.sizeOf20)
 v20:=(run_o (Tryo.zeroValue 20) Tryz.zeroValue20)
 t21:=(und_o Tryz.underlying21)
 a21:=(run_o (Tryo.isAgg 21) Tryz.isAgg21)
 z21:=(run_o (Tryo.sizeOf 21) Tryz.sizeOf21)
 v21:=(run_o (Tryo.zeroValue 21) Tryz.zeroValue21)
 t37:=(und_o Tryz.underlying81)
 a37:=(run_o (Tryo.isAgg 81) Tryz.isAgg81)
 z37:=(run_o (Tryo.sizeOf 81) Tryz.sizeOf81)
 v37:=(run_o (Tryo.zeroValue 81) Tryz.zeroValue81)
 t46:=(und_o Tryz.underlying121)
 a46:=(run_o (Tryo.isAgg 121) Tryz.isAgg121)
 z46:=(run_o (Tryo.sizeOf 121) Tryz.sizeOf121)
 v46:=(run_o (Tryo.zeroValue 121) Tryz.zeroValue121)
 t51:=(und_o Tryz.underlying116)
 a51:=(run_o (Tryo.isAgg 116) Tryz.isAgg116)
 z51:=(run_o (Tryo.sizeOf 116) Tryz.sizeOf116)
 v51:=(run_o (Tryo.zeroValue 116) Tryz.zeroValue116)
 t70:=(und_o Tryz.underlying106)
 a70:=(run_o (Tryo.isAgg 106) Tryz.isAgg106)
 z70:=(run_o (Tryo.sizeOf 106) Tryz.sizeOf106)
 v70:=(run_o (Tryo.zeroValue 106) Tryz.zeroValue106)
 t72:=(und_o Tryz.underlying108)
 a72:=(run_o (Tryo.isAgg 108) Tryz.isAgg108)
 z72:=(run_o (Tryo.sizeOf 108) Tryz.sizeOf108)
 v72:=(run_o (Tryo.zeroValue 108) Tryz.zeroValue108)
 t75:=(und_o Tryz.underlying110)
 a75:=(run_o (Tryo.isAgg 110) Tryz.isAgg110)
 z75:=(run_o (Tryo.sizeOf 110) Tryz.sizeOf110)
 v75:=(run_o (Tryo.zeroValue 110) Tryz.zeroValue110)
 t76:=(und_o Tryz.underlying111)
 a76:=(run_o (Tryo.isAgg 111) Tryz.isAgg111)
 z76:=(run_o (Tryo.sizeOf 111) Tryz.sizeOf111)
 v76:=(run_o (Tryo.zeroValue 111) Tryz.zeroValue111)
 t105:=(und_o Tryz.underlying113)
 a105:=(run_o (Tryo.isAgg 113) Tryz.isAgg113)
 z105:=(run_o (Tryo.sizeOf 113) Tryz.sizeOf113)
 v105:=(run_o (Tryo.zeroValue 113) Tryz.zeroValue113)
 t119:=(und_o Tryz.underlying183)
 a119:=(run_o (Tryo.isAgg 183) Tryz.isAgg183)
 z119:=(run_o (Tryo.sizeOf 183) Tryz.sizeOf183)
 t127:=(und_o Tryz.underlying151)
 a127:=(run_o (Tryo.isAgg 151) Tryz.isAgg151)
 z127:=(run_o (Tryo.sizeOf 151) Tryz.sizeOf151)
 v127:=(run_o (Tryo.zeroValue 151) Tryz.zeroValue151)
 t138:=(und_o Tryz.underlying185)
 a138:=(run_o (Tryo.isAgg 185) Tryz.isAgg185)
 z138:=(run_o (Tryo.sizeOf 185) Tryz.sizeOf185)
 v138:=(run_o (Tryo.zeroValue 185) Tryz.zeroValue185)
 t139:=(und_o Tryz.underlying186)
 a139:=(run_o (Tryo.isAgg 186) Tryz.isAgg186)
 z139:=(run_o (Tryo.sizeOf 186) Tryz.sizeOf186)
 v139:=(run_o (Tryo.zeroValue 186) Tryz.zeroValue186)
 t146:=(und_o Tryz.underlying117)
 a146:=(run_o (Tryo.isAgg 117) Tryz.isAgg117)
 z146:=(run_o (Tryo.sizeOf 117) Tryz.sizeOf117)
 v146:=(run_o (Tryo.zeroValue 117) Tryz.zeroValue117)
 t164:=(und_o Tryz.underlying180)
 a164:=(run_o (Tryo.isAgg 180) Tryz.isAgg180)
 z164:=(run_o (Tryo.sizeOf 180) Tryz.sizeOf180)
 v164:=(run_o (Tryo.zeroValue 180) Tryz.zeroValue180)
 g1:=by kernel_rfl
 g3:=by kernel_rfl
 g4:=by kernel_rfl}
theorem Tryz.Builder_Extra_155:Builder.Extra Tryo.prog Tryz.lays155_ren:={
 sizeBuilder:=by kernel_rfl
 liesBuilder:=by kernel_rfl
 t5:=(und_o Tryz.underlying5)
 a5:=(run_o (Tryo.isAgg 5) Tryz.isAgg5)
 z5:=(run_o (Tryo.sizeOf 5) Tryz.sizeOf5)
 v5:=(run_o (Tryo.zeroValue 5) Tryz.zeroValue5)
 infoByte:=by kernel_rfl
 cellsByte:=by kernel_rfl
 sizeByte:=by kernel_rfl
 neB5:=by decide}
open Go.RowKit Go.Lib in
theorem Tryz.strings_ReplaceAll(s old new:ByteArray)(m:Int)(w:World)(hs:s.size<4294967281)(hm:w.cell? ⟨3,0,none⟩=some (.int .i64 m))(h1:1<=old.size)(hlen:s.size+Lib.countB s old*new.size<=140737488355328):
  Calls Tryo.prog 17 #[.string s,.string old,.string new] w fun e w'=>
   e= .returned (.string ⟨(Lib.replaceAll s.data.toList old.data.toList new.data.toList).toArray⟩)/\Below w.heap.size w w':=Any.strings_ReplaceAll Tryz.lays155 Tryz.Builder_Extra_155 s old new m w hs hm h1 hlen
end Go.Proofs
