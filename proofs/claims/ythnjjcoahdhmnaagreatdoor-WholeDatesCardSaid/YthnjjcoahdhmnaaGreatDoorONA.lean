import Derived.Test.YthnjjcoahdhmnaaGreatDoorOPath
import Derived.MapKept
import Derived.Maps.Own
import Derived.Deep.RegionHeld3
import Derived.RegionTactic
import Derived.LoopTactic
import Derived.Test.YthnjjcoahdhmnaaGreatDoorOTX
import Derived.Test.YthnjjcoahdhmnaaGreatDoorOHR
import Derived.Outline
import Derived.Test.YthnjjcoahdhmnaaGreatDoorOLibS
import Derived.Test.YthnjjcoahdhmnaaGreatDoorOLib
import Derived.Lib.ItoaLen
import Derived.Lib.SmallJoins
import Derived.Lib.AppendIntMem
import Derived.Test.YthnjjcoahdhmnaaGreatDoorOBB
import Derived.KernelRfl
set_option maxHeartbeats 8000000
set_option maxRecDepth 100000
set_option linter.unusedVariables false
namespace Go.Proofs.YthnjjcoahdhmnaaGreatDoor
section
open Go.ChangeShapes Go.WideShapes Go.ChangeAt Go.RowKit
open Go.ChangeMaps (setBlock heap_setBlock_same heap_setBlock_other)
theorem But.map{w:World}{b clock:Nat}{es:Array MapEntry}(hb:w.heap[b]? =some (.map es clock))(o:Obj):But b w (setBlock w b o):=
 ⟨rfl,rfl,rfl,by simp [setBlock],fun k _ hk=>heap_setBlock_other hb o hk⟩
def nameCells:List Value:= [.string ⟨#[84,105,115,104,114,105]⟩,.string ⟨#[72,101,115,104,118,97,110]⟩,.string ⟨#[75,105,115,108,101,118]⟩,.string ⟨#[84,101,118,101,116]⟩,.string ⟨#[83,104,101,118,97,116]⟩,.string ⟨#[65,100,97,114]⟩,.string ⟨#[78,105,115,97,110]⟩,.string ⟨#[73,121,97,114]⟩,.string ⟨#[83,105,118,97,110]⟩,.string ⟨#[84,97,109,109,117,122]⟩,.string ⟨#[65,118]⟩,.string ⟨#[69,108,117,108]⟩]
end
section
open Go.ChangeShapes Go.WideShapes Go.ChangeAt Go.RowKit
theorem DX(y n:Int)(l:Bool)(v er:Int)(w:World)(hT:Tab w 7 kevCells)(hL:Tab w 5 lenCells)(HC:Hid (∀w:World,Tab w 7 kevCells->Tab w 5 lenCells->Calls Tryo.prog 129 #[.int .i64 y,.agg #[.int .i64 n,.bool l]] w fun e w'=>e= .returned (.tuple #[.int .i64 (v),.int .i64 (er)])/\Below w.heap.size w w'))(h:(er !=0)=true):
  Calls Tryo.prog 54 #[.int .i64 y,.agg #[.int .i64 n,.bool l]] w fun e w'=>e= .returned (.tuple #[.string ⟨#[]⟩,.int .i64 (er)])/\Below w.heap.size w w':=by
 go_enter Tryo.func54,Tryz.ntmps54
 go_wp2_with fail
 refine(HC.out _ (Tab.below hT bem) (Tab.below hL bem)).mono ?_
 rintro e w1 ⟨rfl,hb1⟩
 obtain⟨hc1,hf1⟩:=aA hb1
 have hz1:=hb1.size
 try simp at hz1
 have hs1x0:w.heap.size<w1.heap.size:=by omega
 have g1x0:w1.cell? ⟨w.heap.size,0,none⟩=some (.int .i64 (n)):=cel hc1
 have g1x1:w1.cell? ⟨w.heap.size,1,none⟩=some (.bool (l)):=cel hc1
 go_wp2_with fail
 go_ret2
 refine⟨rfl, ?_⟩
 exact bem
theorem Ik(y n:Int)(v:Int)(w:World)(hT:Tab w 7 kevCells)(hL:Tab w 5 lenCells)(HC:Hid (∀w:World,Tab w 7 kevCells->Tab w 5 lenCells->Calls Tryo.prog 129 #[.int .i64 y,.agg #[.int .i64 n,.bool true]] w fun e w'=>e= .returned (.tuple #[.int .i64 (v),.int .i64 (0)])/\Below w.heap.size w w')):
  Calls Tryo.prog 54 #[.int .i64 y,.agg #[.int .i64 n,.bool true]] w fun e w'=>e= .returned (.tuple #[.string ⟨#[65,100,97,114,32,73]⟩,.int .i64 (0)])/\Below w.heap.size w w':=by
 go_enter Tryo.func54,Tryz.ntmps54
 go_wp2_with fail
 refine(HC.out _ (Tab.below hT bem) (Tab.below hL bem)).mono ?_
 rintro e w1 ⟨rfl,hb1⟩
 obtain⟨hc1,hf1⟩:=aA hb1
 have hz1:=hb1.size
 try simp at hz1
 have hs1x0:w.heap.size<w1.heap.size:=by omega
 have g1x0:w1.cell? ⟨w.heap.size,0,none⟩=some (.int .i64 (n)):=cel hc1
 have g1x1:w1.cell? ⟨w.heap.size,1,none⟩=some (.bool true):=cel hc1
 go_wp2_with fail
 go_ret2
 refine⟨rfl, ?_⟩
 exact bem
theorem Gs(y v:Int)(w:World)(hT:Tab w 7 kevCells)(hL:Tab w 5 lenCells)(HC:Hid (∀w:World,Tab w 7 kevCells->Tab w 5 lenCells->Calls Tryo.prog 129 #[.int .i64 y,.agg #[.int .i64 6,.bool false]] w fun e w'=>e= .returned (.tuple #[.int .i64 (v),.int .i64 (0)])/\Below w.heap.size w w'))(HL:Hid (∀w:World,Calls Tryo.prog 102 #[.int .i64 y] w fun e w'=>e= .returned (.tuple #[.bool true,.int .i64 0])/\w=w')):
  Calls Tryo.prog 54 #[.int .i64 y,.agg #[.int .i64 6,.bool false]] w fun e w'=>e= .returned (.tuple #[.string ⟨#[65,100,97,114,32,73,73]⟩,.int .i64 (0)])/\Below w.heap.size w w':=by
 go_enter Tryo.func54,Tryz.ntmps54
 go_wp2_with fail
 refine(HC.out _ (Tab.below hT bem) (Tab.below hL bem)).mono ?_
 rintro e w1 ⟨rfl,hb1⟩
 obtain⟨hc1,hf1⟩:=aA hb1
 have hz1:=hb1.size
 try simp at hz1
 have hs1x0:w.heap.size<w1.heap.size:=by omega
 have g1x0:w1.cell? ⟨w.heap.size,0,none⟩=some (.int .i64 6):=cel hc1
 have g1x1:w1.cell? ⟨w.heap.size,1,none⟩=some (.bool false):=cel hc1
 go_wp2_with fail
 refine(HL.out _).mono ?_
 rintro e w' ⟨rfl,rfl⟩
 go_wp2_with fail
 go_ret2
 refine⟨rfl, ?_⟩
 exact bem
theorem Ji(y v:Int)(lp:Bool)(w:World)(hT:Tab w 7 kevCells)(hL:Tab w 5 lenCells)(hlt:3<w.heap.size)(hN:w.cell? ⟨3,0,none⟩=some (.string ⟨#[84,105,115,104,114,105]⟩))(HC:Hid (∀w:World,Tab w 7 kevCells->Tab w 5 lenCells->Calls Tryo.prog 129 #[.int .i64 y,.agg #[.int .i64 1,.bool false]] w fun e w'=>e= .returned (.tuple #[.int .i64 (v),.int .i64 (0)])/\Below w.heap.size w w'))(HL:Hid (∀w:World,Calls Tryo.prog 102 #[.int .i64 y] w fun e w'=>e= .returned (.tuple #[.bool lp,.int .i64 0])/\w=w')):
  Calls Tryo.prog 54 #[.int .i64 y,.agg #[.int .i64 1,.bool false]] w fun e w'=>e= .returned (.tuple #[.string ⟨#[84,105,115,104,114,105]⟩,.int .i64 (0)])/\Below w.heap.size w w':=by
 go_enter Tryo.func54,Tryz.ntmps54
 go_wp2_with fail
 refine(HC.out _ (Tab.below hT bem) (Tab.below hL bem)).mono ?_
 rintro e w1 ⟨rfl,hb1⟩
 obtain⟨hc1,hf1⟩:=aA hb1
 have hz1:=hb1.size
 try simp at hz1
 have hs1x0:w.heap.size<w1.heap.size:=by omega
 have hs1x1:3<w1.heap.size:=by omega
 have g1x0:w1.cell? ⟨w.heap.size,0,none⟩=some (.int .i64 1):=cel hc1
 have g1x1:w1.cell? ⟨w.heap.size,1,none⟩=some (.bool false):=cel hc1
 have g1x2:w1.cell? ⟨3,0,none⟩=some (.string ⟨#[84,105,115,104,114,105]⟩):=cel hc1
 go_wp2_with fail
 refine(HL.out _).mono ?_
 rintro e w' ⟨rfl,rfl⟩
 go_wp2_with fail
 all_goals go_ret2
 all_goals refine⟨rfl, ?_⟩
 all_goals repeat(first|exact Below.refl _ _|assumption|(with_reducible refine aD ?_)|(with_reducible refine baa ?_ _)|(with_reducible refine bs ?_ (by first|exact Nat.le_refl _|omega|(simp;done)|(simp;omega)) _)|(with_reducible refine bt ?_ (by assumption)))
theorem Jy(y v:Int)(lp:Bool)(w:World)(hT:Tab w 7 kevCells)(hL:Tab w 5 lenCells)(hlt:3<w.heap.size)(hN:w.cell? ⟨3,1,none⟩=some (.string ⟨#[72,101,115,104,118,97,110]⟩))(HC:Hid (∀w:World,Tab w 7 kevCells->Tab w 5 lenCells->Calls Tryo.prog 129 #[.int .i64 y,.agg #[.int .i64 2,.bool false]] w fun e w'=>e= .returned (.tuple #[.int .i64 (v),.int .i64 (0)])/\Below w.heap.size w w'))(HL:Hid (∀w:World,Calls Tryo.prog 102 #[.int .i64 y] w fun e w'=>e= .returned (.tuple #[.bool lp,.int .i64 0])/\w=w')):
  Calls Tryo.prog 54 #[.int .i64 y,.agg #[.int .i64 2,.bool false]] w fun e w'=>e= .returned (.tuple #[.string ⟨#[72,101,115,104,118,97,110]⟩,.int .i64 (0)])/\Below w.heap.size w w':=by
 go_enter Tryo.func54,Tryz.ntmps54
 go_wp2_with fail
 refine(HC.out _ (Tab.below hT bem) (Tab.below hL bem)).mono ?_
 rintro e w1 ⟨rfl,hb1⟩
 obtain⟨hc1,hf1⟩:=aA hb1
 have hz1:=hb1.size
 try simp at hz1
 have hs1x0:w.heap.size<w1.heap.size:=by omega
 have hs1x1:3<w1.heap.size:=by omega
 have g1x0:w1.cell? ⟨w.heap.size,0,none⟩=some (.int .i64 2):=cel hc1
 have g1x1:w1.cell? ⟨w.heap.size,1,none⟩=some (.bool false):=cel hc1
 have g1x2:w1.cell? ⟨3,1,none⟩=some (.string ⟨#[72,101,115,104,118,97,110]⟩):=cel hc1
 go_wp2_with fail
 refine(HL.out _).mono ?_
 rintro e w' ⟨rfl,rfl⟩
 go_wp2_with fail
 all_goals go_ret2
 all_goals refine⟨rfl, ?_⟩
 all_goals repeat(first|exact Below.refl _ _|assumption|(with_reducible refine aD ?_)|(with_reducible refine baa ?_ _)|(with_reducible refine bs ?_ (by first|exact Nat.le_refl _|omega|(simp;done)|(simp;omega)) _)|(with_reducible refine bt ?_ (by assumption)))
theorem JE(y v:Int)(lp:Bool)(w:World)(hT:Tab w 7 kevCells)(hL:Tab w 5 lenCells)(hlt:3<w.heap.size)(hN:w.cell? ⟨3,2,none⟩=some (.string ⟨#[75,105,115,108,101,118]⟩))(HC:Hid (∀w:World,Tab w 7 kevCells->Tab w 5 lenCells->Calls Tryo.prog 129 #[.int .i64 y,.agg #[.int .i64 3,.bool false]] w fun e w'=>e= .returned (.tuple #[.int .i64 (v),.int .i64 (0)])/\Below w.heap.size w w'))(HL:Hid (∀w:World,Calls Tryo.prog 102 #[.int .i64 y] w fun e w'=>e= .returned (.tuple #[.bool lp,.int .i64 0])/\w=w')):
  Calls Tryo.prog 54 #[.int .i64 y,.agg #[.int .i64 3,.bool false]] w fun e w'=>e= .returned (.tuple #[.string ⟨#[75,105,115,108,101,118]⟩,.int .i64 (0)])/\Below w.heap.size w w':=by
 go_enter Tryo.func54,Tryz.ntmps54
 go_wp2_with fail
 refine(HC.out _ (Tab.below hT bem) (Tab.below hL bem)).mono ?_
 rintro e w1 ⟨rfl,hb1⟩
 obtain⟨hc1,hf1⟩:=aA hb1
 have hz1:=hb1.size
 try simp at hz1
 have hs1x0:w.heap.size<w1.heap.size:=by omega
 have hs1x1:3<w1.heap.size:=by omega
 have g1x0:w1.cell? ⟨w.heap.size,0,none⟩=some (.int .i64 3):=cel hc1
 have g1x1:w1.cell? ⟨w.heap.size,1,none⟩=some (.bool false):=cel hc1
 have g1x2:w1.cell? ⟨3,2,none⟩=some (.string ⟨#[75,105,115,108,101,118]⟩):=cel hc1
 go_wp2_with fail
 refine(HL.out _).mono ?_
 rintro e w' ⟨rfl,rfl⟩
 go_wp2_with fail
 all_goals go_ret2
 all_goals refine⟨rfl, ?_⟩
 all_goals repeat(first|exact Below.refl _ _|assumption|(with_reducible refine aD ?_)|(with_reducible refine baa ?_ _)|(with_reducible refine bs ?_ (by first|exact Nat.le_refl _|omega|(simp;done)|(simp;omega)) _)|(with_reducible refine bt ?_ (by assumption)))
theorem Js(y v:Int)(lp:Bool)(w:World)(hT:Tab w 7 kevCells)(hL:Tab w 5 lenCells)(hlt:3<w.heap.size)(hN:w.cell? ⟨3,3,none⟩=some (.string ⟨#[84,101,118,101,116]⟩))(HC:Hid (∀w:World,Tab w 7 kevCells->Tab w 5 lenCells->Calls Tryo.prog 129 #[.int .i64 y,.agg #[.int .i64 4,.bool false]] w fun e w'=>e= .returned (.tuple #[.int .i64 (v),.int .i64 (0)])/\Below w.heap.size w w'))(HL:Hid (∀w:World,Calls Tryo.prog 102 #[.int .i64 y] w fun e w'=>e= .returned (.tuple #[.bool lp,.int .i64 0])/\w=w')):
  Calls Tryo.prog 54 #[.int .i64 y,.agg #[.int .i64 4,.bool false]] w fun e w'=>e= .returned (.tuple #[.string ⟨#[84,101,118,101,116]⟩,.int .i64 (0)])/\Below w.heap.size w w':=by
 go_enter Tryo.func54,Tryz.ntmps54
 go_wp2_with fail
 refine(HC.out _ (Tab.below hT bem) (Tab.below hL bem)).mono ?_
 rintro e w1 ⟨rfl,hb1⟩
 obtain⟨hc1,hf1⟩:=aA hb1
 have hz1:=hb1.size
 try simp at hz1
 have hs1x0:w.heap.size<w1.heap.size:=by omega
 have hs1x1:3<w1.heap.size:=by omega
 have g1x0:w1.cell? ⟨w.heap.size,0,none⟩=some (.int .i64 4):=cel hc1
 have g1x1:w1.cell? ⟨w.heap.size,1,none⟩=some (.bool false):=cel hc1
 have g1x2:w1.cell? ⟨3,3,none⟩=some (.string ⟨#[84,101,118,101,116]⟩):=cel hc1
 go_wp2_with fail
 refine(HL.out _).mono ?_
 rintro e w' ⟨rfl,rfl⟩
 go_wp2_with fail
 all_goals go_ret2
 all_goals refine⟨rfl, ?_⟩
 all_goals repeat(first|exact Below.refl _ _|assumption|(with_reducible refine aD ?_)|(with_reducible refine baa ?_ _)|(with_reducible refine bs ?_ (by first|exact Nat.le_refl _|omega|(simp;done)|(simp;omega)) _)|(with_reducible refine bt ?_ (by assumption)))
theorem Jr(y v:Int)(lp:Bool)(w:World)(hT:Tab w 7 kevCells)(hL:Tab w 5 lenCells)(hlt:3<w.heap.size)(hN:w.cell? ⟨3,4,none⟩=some (.string ⟨#[83,104,101,118,97,116]⟩))(HC:Hid (∀w:World,Tab w 7 kevCells->Tab w 5 lenCells->Calls Tryo.prog 129 #[.int .i64 y,.agg #[.int .i64 5,.bool false]] w fun e w'=>e= .returned (.tuple #[.int .i64 (v),.int .i64 (0)])/\Below w.heap.size w w'))(HL:Hid (∀w:World,Calls Tryo.prog 102 #[.int .i64 y] w fun e w'=>e= .returned (.tuple #[.bool lp,.int .i64 0])/\w=w')):
  Calls Tryo.prog 54 #[.int .i64 y,.agg #[.int .i64 5,.bool false]] w fun e w'=>e= .returned (.tuple #[.string ⟨#[83,104,101,118,97,116]⟩,.int .i64 (0)])/\Below w.heap.size w w':=by
 go_enter Tryo.func54,Tryz.ntmps54
 go_wp2_with fail
 refine(HC.out _ (Tab.below hT bem) (Tab.below hL bem)).mono ?_
 rintro e w1 ⟨rfl,hb1⟩
 obtain⟨hc1,hf1⟩:=aA hb1
 have hz1:=hb1.size
 try simp at hz1
 have hs1x0:w.heap.size<w1.heap.size:=by omega
 have hs1x1:3<w1.heap.size:=by omega
 have g1x0:w1.cell? ⟨w.heap.size,0,none⟩=some (.int .i64 5):=cel hc1
 have g1x1:w1.cell? ⟨w.heap.size,1,none⟩=some (.bool false):=cel hc1
 have g1x2:w1.cell? ⟨3,4,none⟩=some (.string ⟨#[83,104,101,118,97,116]⟩):=cel hc1
 go_wp2_with fail
 refine(HL.out _).mono ?_
 rintro e w' ⟨rfl,rfl⟩
 go_wp2_with fail
 all_goals go_ret2
 all_goals refine⟨rfl, ?_⟩
 all_goals repeat(first|exact Below.refl _ _|assumption|(with_reducible refine aD ?_)|(with_reducible refine baa ?_ _)|(with_reducible refine bs ?_ (by first|exact Nat.le_refl _|omega|(simp;done)|(simp;omega)) _)|(with_reducible refine bt ?_ (by assumption)))
theorem Iq(y v:Int)(lp:Bool)(w:World)(hT:Tab w 7 kevCells)(hL:Tab w 5 lenCells)(hlt:3<w.heap.size)(hN:w.cell? ⟨3,5,none⟩=some (.string ⟨#[65,100,97,114]⟩))(HC:Hid (∀w:World,Tab w 7 kevCells->Tab w 5 lenCells->Calls Tryo.prog 129 #[.int .i64 y,.agg #[.int .i64 6,.bool false]] w fun e w'=>e= .returned (.tuple #[.int .i64 (v),.int .i64 (0)])/\Below w.heap.size w w'))(HL:Hid (∀w:World,Calls Tryo.prog 102 #[.int .i64 y] w fun e w'=>e= .returned (.tuple #[.bool lp,.int .i64 0])/\w=w'))(hlp:lp=false):
  Calls Tryo.prog 54 #[.int .i64 y,.agg #[.int .i64 6,.bool false]] w fun e w'=>e= .returned (.tuple #[.string ⟨#[65,100,97,114]⟩,.int .i64 (0)])/\Below w.heap.size w w':=by
 subst hlp
 go_enter Tryo.func54,Tryz.ntmps54
 go_wp2_with fail
 refine(HC.out _ (Tab.below hT bem) (Tab.below hL bem)).mono ?_
 rintro e w1 ⟨rfl,hb1⟩
 obtain⟨hc1,hf1⟩:=aA hb1
 have hz1:=hb1.size
 try simp at hz1
 have hs1x0:w.heap.size<w1.heap.size:=by omega
 have hs1x1:3<w1.heap.size:=by omega
 have g1x0:w1.cell? ⟨w.heap.size,0,none⟩=some (.int .i64 6):=cel hc1
 have g1x1:w1.cell? ⟨w.heap.size,1,none⟩=some (.bool false):=cel hc1
 have g1x2:w1.cell? ⟨3,5,none⟩=some (.string ⟨#[65,100,97,114]⟩):=cel hc1
 go_wp2_with fail
 refine(HL.out _).mono ?_
 rintro e w' ⟨rfl,rfl⟩
 go_wp2_with fail
 all_goals go_ret2
 all_goals refine⟨rfl, ?_⟩
 all_goals repeat(first|exact Below.refl _ _|assumption|(with_reducible refine aD ?_)|(with_reducible refine baa ?_ _)|(with_reducible refine bs ?_ (by first|exact Nat.le_refl _|omega|(simp;done)|(simp;omega)) _)|(with_reducible refine bt ?_ (by assumption)))
theorem Kk(y v:Int)(lp:Bool)(w:World)(hT:Tab w 7 kevCells)(hL:Tab w 5 lenCells)(hlt:3<w.heap.size)(hN:w.cell? ⟨3,6,none⟩=some (.string ⟨#[78,105,115,97,110]⟩))(HC:Hid (∀w:World,Tab w 7 kevCells->Tab w 5 lenCells->Calls Tryo.prog 129 #[.int .i64 y,.agg #[.int .i64 7,.bool false]] w fun e w'=>e= .returned (.tuple #[.int .i64 (v),.int .i64 (0)])/\Below w.heap.size w w'))(HL:Hid (∀w:World,Calls Tryo.prog 102 #[.int .i64 y] w fun e w'=>e= .returned (.tuple #[.bool lp,.int .i64 0])/\w=w')):
  Calls Tryo.prog 54 #[.int .i64 y,.agg #[.int .i64 7,.bool false]] w fun e w'=>e= .returned (.tuple #[.string ⟨#[78,105,115,97,110]⟩,.int .i64 (0)])/\Below w.heap.size w w':=by
 go_enter Tryo.func54,Tryz.ntmps54
 go_wp2_with fail
 refine(HC.out _ (Tab.below hT bem) (Tab.below hL bem)).mono ?_
 rintro e w1 ⟨rfl,hb1⟩
 obtain⟨hc1,hf1⟩:=aA hb1
 have hz1:=hb1.size
 try simp at hz1
 have hs1x0:w.heap.size<w1.heap.size:=by omega
 have hs1x1:3<w1.heap.size:=by omega
 have g1x0:w1.cell? ⟨w.heap.size,0,none⟩=some (.int .i64 7):=cel hc1
 have g1x1:w1.cell? ⟨w.heap.size,1,none⟩=some (.bool false):=cel hc1
 have g1x2:w1.cell? ⟨3,6,none⟩=some (.string ⟨#[78,105,115,97,110]⟩):=cel hc1
 go_wp2_with fail
 refine(HL.out _).mono ?_
 rintro e w' ⟨rfl,rfl⟩
 go_wp2_with fail
 all_goals go_ret2
 all_goals refine⟨rfl, ?_⟩
 all_goals repeat(first|exact Below.refl _ _|assumption|(with_reducible refine aD ?_)|(with_reducible refine baa ?_ _)|(with_reducible refine bs ?_ (by first|exact Nat.le_refl _|omega|(simp;done)|(simp;omega)) _)|(with_reducible refine bt ?_ (by assumption)))
theorem IB(y v:Int)(lp:Bool)(w:World)(hT:Tab w 7 kevCells)(hL:Tab w 5 lenCells)(hlt:3<w.heap.size)(hN:w.cell? ⟨3,7,none⟩=some (.string ⟨#[73,121,97,114]⟩))(HC:Hid (∀w:World,Tab w 7 kevCells->Tab w 5 lenCells->Calls Tryo.prog 129 #[.int .i64 y,.agg #[.int .i64 8,.bool false]] w fun e w'=>e= .returned (.tuple #[.int .i64 (v),.int .i64 (0)])/\Below w.heap.size w w'))(HL:Hid (∀w:World,Calls Tryo.prog 102 #[.int .i64 y] w fun e w'=>e= .returned (.tuple #[.bool lp,.int .i64 0])/\w=w')):
  Calls Tryo.prog 54 #[.int .i64 y,.agg #[.int .i64 8,.bool false]] w fun e w'=>e= .returned (.tuple #[.string ⟨#[73,121,97,114]⟩,.int .i64 (0)])/\Below w.heap.size w w':=by
 go_enter Tryo.func54,Tryz.ntmps54
 go_wp2_with fail
 refine(HC.out _ (Tab.below hT bem) (Tab.below hL bem)).mono ?_
 rintro e w1 ⟨rfl,hb1⟩
 obtain⟨hc1,hf1⟩:=aA hb1
 have hz1:=hb1.size
 try simp at hz1
 have hs1x0:w.heap.size<w1.heap.size:=by omega
 have hs1x1:3<w1.heap.size:=by omega
 have g1x0:w1.cell? ⟨w.heap.size,0,none⟩=some (.int .i64 8):=cel hc1
 have g1x1:w1.cell? ⟨w.heap.size,1,none⟩=some (.bool false):=cel hc1
 have g1x2:w1.cell? ⟨3,7,none⟩=some (.string ⟨#[73,121,97,114]⟩):=cel hc1
 go_wp2_with fail
 refine(HL.out _).mono ?_
 rintro e w' ⟨rfl,rfl⟩
 go_wp2_with fail
 all_goals go_ret2
 all_goals refine⟨rfl, ?_⟩
 all_goals repeat(first|exact Below.refl _ _|assumption|(with_reducible refine aD ?_)|(with_reducible refine baa ?_ _)|(with_reducible refine bs ?_ (by first|exact Nat.le_refl _|omega|(simp;done)|(simp;omega)) _)|(with_reducible refine bt ?_ (by assumption)))
theorem JI(y v:Int)(lp:Bool)(w:World)(hT:Tab w 7 kevCells)(hL:Tab w 5 lenCells)(hlt:3<w.heap.size)(hN:w.cell? ⟨3,8,none⟩=some (.string ⟨#[83,105,118,97,110]⟩))(HC:Hid (∀w:World,Tab w 7 kevCells->Tab w 5 lenCells->Calls Tryo.prog 129 #[.int .i64 y,.agg #[.int .i64 9,.bool false]] w fun e w'=>e= .returned (.tuple #[.int .i64 (v),.int .i64 (0)])/\Below w.heap.size w w'))(HL:Hid (∀w:World,Calls Tryo.prog 102 #[.int .i64 y] w fun e w'=>e= .returned (.tuple #[.bool lp,.int .i64 0])/\w=w')):
  Calls Tryo.prog 54 #[.int .i64 y,.agg #[.int .i64 9,.bool false]] w fun e w'=>e= .returned (.tuple #[.string ⟨#[83,105,118,97,110]⟩,.int .i64 (0)])/\Below w.heap.size w w':=by
 go_enter Tryo.func54,Tryz.ntmps54
 go_wp2_with fail
 refine(HC.out _ (Tab.below hT bem) (Tab.below hL bem)).mono ?_
 rintro e w1 ⟨rfl,hb1⟩
 obtain⟨hc1,hf1⟩:=aA hb1
 have hz1:=hb1.size
 try simp at hz1
 have hs1x0:w.heap.size<w1.heap.size:=by omega
 have hs1x1:3<w1.heap.size:=by omega
 have g1x0:w1.cell? ⟨w.heap.size,0,none⟩=some (.int .i64 9):=cel hc1
 have g1x1:w1.cell? ⟨w.heap.size,1,none⟩=some (.bool false):=cel hc1
 have g1x2:w1.cell? ⟨3,8,none⟩=some (.string ⟨#[83,105,118,97,110]⟩):=cel hc1
 go_wp2_with fail
 refine(HL.out _).mono ?_
 rintro e w' ⟨rfl,rfl⟩
 go_wp2_with fail
 all_goals go_ret2
 all_goals refine⟨rfl, ?_⟩
 all_goals repeat(first|exact Below.refl _ _|assumption|(with_reducible refine aD ?_)|(with_reducible refine baa ?_ _)|(with_reducible refine bs ?_ (by first|exact Nat.le_refl _|omega|(simp;done)|(simp;omega)) _)|(with_reducible refine bt ?_ (by assumption)))
theorem Gc(y v:Int)(lp:Bool)(w:World)(hT:Tab w 7 kevCells)(hL:Tab w 5 lenCells)(hlt:3<w.heap.size)(hN:w.cell? ⟨3,9,none⟩=some (.string ⟨#[84,97,109,109,117,122]⟩))(HC:Hid (∀w:World,Tab w 7 kevCells->Tab w 5 lenCells->Calls Tryo.prog 129 #[.int .i64 y,.agg #[.int .i64 10,.bool false]] w fun e w'=>e= .returned (.tuple #[.int .i64 (v),.int .i64 (0)])/\Below w.heap.size w w'))(HL:Hid (∀w:World,Calls Tryo.prog 102 #[.int .i64 y] w fun e w'=>e= .returned (.tuple #[.bool lp,.int .i64 0])/\w=w')):
  Calls Tryo.prog 54 #[.int .i64 y,.agg #[.int .i64 10,.bool false]] w fun e w'=>e= .returned (.tuple #[.string ⟨#[84,97,109,109,117,122]⟩,.int .i64 (0)])/\Below w.heap.size w w':=by
 go_enter Tryo.func54,Tryz.ntmps54
 go_wp2_with fail
 refine(HC.out _ (Tab.below hT bem) (Tab.below hL bem)).mono ?_
 rintro e w1 ⟨rfl,hb1⟩
 obtain⟨hc1,hf1⟩:=aA hb1
 have hz1:=hb1.size
 try simp at hz1
 have hs1x0:w.heap.size<w1.heap.size:=by omega
 have hs1x1:3<w1.heap.size:=by omega
 have g1x0:w1.cell? ⟨w.heap.size,0,none⟩=some (.int .i64 10):=cel hc1
 have g1x1:w1.cell? ⟨w.heap.size,1,none⟩=some (.bool false):=cel hc1
 have g1x2:w1.cell? ⟨3,9,none⟩=some (.string ⟨#[84,97,109,109,117,122]⟩):=cel hc1
 go_wp2_with fail
 refine(HL.out _).mono ?_
 rintro e w' ⟨rfl,rfl⟩
 go_wp2_with fail
 all_goals go_ret2
 all_goals refine⟨rfl, ?_⟩
 all_goals repeat(first|exact Below.refl _ _|assumption|(with_reducible refine aD ?_)|(with_reducible refine baa ?_ _)|(with_reducible refine bs ?_ (by first|exact Nat.le_refl _|omega|(simp;done)|(simp;omega)) _)|(with_reducible refine bt ?_ (by assumption)))
theorem Gf(y v:Int)(lp:Bool)(w:World)(hT:Tab w 7 kevCells)(hL:Tab w 5 lenCells)(hlt:3<w.heap.size)(hN:w.cell? ⟨3,10,none⟩=some (.string ⟨#[65,118]⟩))(HC:Hid (∀w:World,Tab w 7 kevCells->Tab w 5 lenCells->Calls Tryo.prog 129 #[.int .i64 y,.agg #[.int .i64 11,.bool false]] w fun e w'=>e= .returned (.tuple #[.int .i64 (v),.int .i64 (0)])/\Below w.heap.size w w'))(HL:Hid (∀w:World,Calls Tryo.prog 102 #[.int .i64 y] w fun e w'=>e= .returned (.tuple #[.bool lp,.int .i64 0])/\w=w')):
  Calls Tryo.prog 54 #[.int .i64 y,.agg #[.int .i64 11,.bool false]] w fun e w'=>e= .returned (.tuple #[.string ⟨#[65,118]⟩,.int .i64 (0)])/\Below w.heap.size w w':=by
 go_enter Tryo.func54,Tryz.ntmps54
 go_wp2_with fail
 refine(HC.out _ (Tab.below hT bem) (Tab.below hL bem)).mono ?_
 rintro e w1 ⟨rfl,hb1⟩
 obtain⟨hc1,hf1⟩:=aA hb1
 have hz1:=hb1.size
 try simp at hz1
 have hs1x0:w.heap.size<w1.heap.size:=by omega
 have hs1x1:3<w1.heap.size:=by omega
 have g1x0:w1.cell? ⟨w.heap.size,0,none⟩=some (.int .i64 11):=cel hc1
 have g1x1:w1.cell? ⟨w.heap.size,1,none⟩=some (.bool false):=cel hc1
 have g1x2:w1.cell? ⟨3,10,none⟩=some (.string ⟨#[65,118]⟩):=cel hc1
 go_wp2_with fail
 refine(HL.out _).mono ?_
 rintro e w' ⟨rfl,rfl⟩
 go_wp2_with fail
 all_goals go_ret2
 all_goals refine⟨rfl, ?_⟩
 all_goals repeat(first|exact Below.refl _ _|assumption|(with_reducible refine aD ?_)|(with_reducible refine baa ?_ _)|(with_reducible refine bs ?_ (by first|exact Nat.le_refl _|omega|(simp;done)|(simp;omega)) _)|(with_reducible refine bt ?_ (by assumption)))
theorem Fz(y v:Int)(lp:Bool)(w:World)(hT:Tab w 7 kevCells)(hL:Tab w 5 lenCells)(hlt:3<w.heap.size)(hN:w.cell? ⟨3,11,none⟩=some (.string ⟨#[69,108,117,108]⟩))(HC:Hid (∀w:World,Tab w 7 kevCells->Tab w 5 lenCells->Calls Tryo.prog 129 #[.int .i64 y,.agg #[.int .i64 12,.bool false]] w fun e w'=>e= .returned (.tuple #[.int .i64 (v),.int .i64 (0)])/\Below w.heap.size w w'))(HL:Hid (∀w:World,Calls Tryo.prog 102 #[.int .i64 y] w fun e w'=>e= .returned (.tuple #[.bool lp,.int .i64 0])/\w=w')):
  Calls Tryo.prog 54 #[.int .i64 y,.agg #[.int .i64 12,.bool false]] w fun e w'=>e= .returned (.tuple #[.string ⟨#[69,108,117,108]⟩,.int .i64 (0)])/\Below w.heap.size w w':=by
 go_enter Tryo.func54,Tryz.ntmps54
 go_wp2_with fail
 refine(HC.out _ (Tab.below hT bem) (Tab.below hL bem)).mono ?_
 rintro e w1 ⟨rfl,hb1⟩
 obtain⟨hc1,hf1⟩:=aA hb1
 have hz1:=hb1.size
 try simp at hz1
 have hs1x0:w.heap.size<w1.heap.size:=by omega
 have hs1x1:3<w1.heap.size:=by omega
 have g1x0:w1.cell? ⟨w.heap.size,0,none⟩=some (.int .i64 12):=cel hc1
 have g1x1:w1.cell? ⟨w.heap.size,1,none⟩=some (.bool false):=cel hc1
 have g1x2:w1.cell? ⟨3,11,none⟩=some (.string ⟨#[69,108,117,108]⟩):=cel hc1
 go_wp2_with fail
 refine(HL.out _).mono ?_
 rintro e w' ⟨rfl,rfl⟩
 go_wp2_with fail
 all_goals go_ret2
 all_goals refine⟨rfl, ?_⟩
 all_goals repeat(first|exact Below.refl _ _|assumption|(with_reducible refine aD ?_)|(with_reducible refine baa ?_ _)|(with_reducible refine bs ?_ (by first|exact Nat.le_refl _|omega|(simp;done)|(simp;omega)) _)|(with_reducible refine bt ?_ (by assumption)))
def dV(y n:Int)(l:Bool):ByteArray:=if l then⟨#[65,100,97,114,32,73]⟩else if Cal.leap y&&decide (n=6)then⟨#[65,100,97,114,32,73,73]⟩else([⟨#[84,105,115,104,114,105]⟩,⟨#[72,101,115,104,118,97,110]⟩,⟨#[75,105,115,108,101,118]⟩,⟨#[84,101,118,101,116]⟩,⟨#[83,104,101,118,97,116]⟩,⟨#[65,100,97,114]⟩,⟨#[78,105,115,97,110]⟩,⟨#[73,121,97,114]⟩,⟨#[83,105,118,97,110]⟩,⟨#[84,97,109,109,117,122]⟩,⟨#[65,118]⟩,⟨#[69,108,117,108]⟩].getD (n-1).toNat ByteArray.empty)
theorem N9(y n:Int)(l:Bool)(w:World)(hy:I64 y)(hT:Tab w 7 kevCells)(hL:Tab w 5 lenCells)(hN:Tab w 3 nameCells):
  Calls Tryo.prog 54 #[.int .i64 y,.agg #[.int .i64 n,.bool l]] w fun e w'=>e= .returned (.tuple #[.string (if D10.bq y n l=0 then dV y n l else⟨#[]⟩),.int .i64 (D10.bq y n l)])/\Below w.heap.size w w':=by
 have HC:=Lib.hid (fun w hT hL=>dN y n l w hy hT hL)
 by_cases c:D10.bq y n l=0
 ·obtain⟨y1,y2,hp,_⟩:=D10.sI c
  rw [c]at HC
  rw [c,if_pos rfl]
  have HL:=Lib.hid (fun w=>aT y w (by omega) (by omega))
  cases l
  ·have hr:1<=n/\n<=12:=by
    simp [Cal.dJ,Cal.right]at hp;omega
   have hlt:=hN.lt
   have hn:n=1∨n=2∨n=3∨n=4∨n=5∨n=6∨n=7∨n=8∨n=9∨n=10∨n=11∨n=12:=by omega
   rcases hn with rfl|rfl|rfl|rfl|rfl|rfl|rfl|rfl|rfl|rfl|rfl|rfl
   ·rw [show dV y 1 false=⟨#[84,105,115,104,114,105]⟩ by simp [dV]]
    exact Ji y _ _ w hT hL hlt (hN.cell 0) HC HL
   ·rw [show dV y 2 false=⟨#[72,101,115,104,118,97,110]⟩ by simp [dV]]
    exact Jy y _ _ w hT hL hlt (hN.cell 1) HC HL
   ·rw [show dV y 3 false=⟨#[75,105,115,108,101,118]⟩ by simp [dV]]
    exact JE y _ _ w hT hL hlt (hN.cell 2) HC HL
   ·rw [show dV y 4 false=⟨#[84,101,118,101,116]⟩ by simp [dV]]
    exact Js y _ _ w hT hL hlt (hN.cell 3) HC HL
   ·rw [show dV y 5 false=⟨#[83,104,101,118,97,116]⟩ by simp [dV]]
    exact Jr y _ _ w hT hL hlt (hN.cell 4) HC HL
   ·cases hl:Cal.leap y
    ·rw [show dV y 6 false=⟨#[65,100,97,114]⟩ by simp [dV,hl]]
     rw [hl]at HL
     exact Iq y _ false w hT hL hlt (hN.cell 5) HC HL rfl
    ·rw [show dV y 6 false=⟨#[65,100,97,114,32,73,73]⟩ by simp [dV,hl]]
     rw [hl]at HL
     exact Gs y _ w hT hL HC HL
   ·rw [show dV y 7 false=⟨#[78,105,115,97,110]⟩ by simp [dV]]
    exact Kk y _ _ w hT hL hlt (hN.cell 6) HC HL
   ·rw [show dV y 8 false=⟨#[73,121,97,114]⟩ by simp [dV]]
    exact IB y _ _ w hT hL hlt (hN.cell 7) HC HL
   ·rw [show dV y 9 false=⟨#[83,105,118,97,110]⟩ by simp [dV]]
    exact JI y _ _ w hT hL hlt (hN.cell 8) HC HL
   ·rw [show dV y 10 false=⟨#[84,97,109,109,117,122]⟩ by simp [dV]]
    exact Gc y _ _ w hT hL hlt (hN.cell 9) HC HL
   ·rw [show dV y 11 false=⟨#[65,118]⟩ by simp [dV]]
    exact Gf y _ _ w hT hL hlt (hN.cell 10) HC HL
   ·rw [show dV y 12 false=⟨#[69,108,117,108]⟩ by simp [dV]]
    exact Fz y _ _ w hT hL hlt (hN.cell 11) HC HL
  ·exact Ik y n _ w hT hL HC
 ·rw [if_neg c]
  exact DX y n l _ _ w hT hL HC (by simpa using c)
end
section
open Go.ChangeShapes Go.WideShapes Go.ChangeAt Go.RowKit
theorem Ph(v:Int)(hv:I64 v)(w:World)(h:Lib.TabIs Tryo.prog w "internal/strconv.uint64pow10" .u64 Lib.pow10Tab):
  Calls Tryo.prog 55 #[.int .i64 v] w fun e w'=>e= .returned (.string ⟨(Lib.itoa v).toArray⟩)/\Below w.heap.size w w':=by
 refine(Tryz.strconv_Itoa v hv.1 hv.2 w h).mono ?_
 rintro e w1 ⟨rfl,k,os,rfl⟩
 exact⟨rfl,Lib.below_grow _ _ (Nat.le_refl _) _ _⟩
theorem nN{w w':World}(h:Lib.TabIs Tryo.prog w "internal/strconv.uint64pow10" .u64 Lib.pow10Tab)(hb:Below w.heap.size w w'):Lib.TabIs Tryo.prog w' "internal/strconv.uint64pow10" .u64 Lib.pow10Tab:=
 Joins.tab_stays (g:=8) (by kernel_rfl) h hb (Nat.le_refl _)
theorem DJ(y n:Int)(l:Bool)(d er:Int)(w:World)(hT:Tab w 7 kevCells)(hL:Tab w 5 lenCells)(HC:Hid (∀w:World,Tab w 7 kevCells->Tab w 5 lenCells->Calls Tryo.prog 21 #[.agg #[.int .i64 y,.int .i64 n,.bool l,.int .i64 d]] w fun e w'=>e= .returned (.int .i64 (er))/\Below w.heap.size w w'))(h:(er !=0)=true):
  Calls Tryo.prog 17 #[.agg #[.int .i64 y,.int .i64 n,.bool l,.int .i64 d]] w fun e w'=>e= .returned (.tuple #[.string ⟨#[]⟩,.int .i64 (er)])/\Below w.heap.size w w':=by
 go_enter Tryo.func17,Tryz.ntmps17
 go_wp2_with fail
 refine(HC.out _ (Tab.below hT bem) (Tab.below hL bem)).mono ?_
 rintro e w1 ⟨rfl,hb1⟩
 obtain⟨hc1,hf1⟩:=aA hb1
 have hz1:=hb1.size
 try simp at hz1
 have hs1x0:w.heap.size<w1.heap.size:=by omega
 have⟨g1x0,g1x1,g1x2,g1x3⟩:=ce4 hc1 (w.heap.size) y n l d
 go_wp2_with fail
 go_ret2
 refine⟨rfl, ?_⟩
 exact bem
theorem FE(y n:Int)(l:Bool)(d:Int)(sn sd sy:ByteArray)(w:World)(hT:Tab w 7 kevCells)(hL:Tab w 5 lenCells)(hN:Tab w 3 nameCells)(hI:Lib.TabIs Tryo.prog w "internal/strconv.uint64pow10" .u64 Lib.pow10Tab)(HC:Hid (∀w:World,Tab w 7 kevCells->Tab w 5 lenCells->Calls Tryo.prog 21 #[.agg #[.int .i64 y,.int .i64 n,.bool l,.int .i64 d]] w fun e w'=>e= .returned (.int .i64 (0))/\Below w.heap.size w w'))(HM:Hid (∀w:World,Tab w 7 kevCells->Tab w 5 lenCells->Tab w 3 nameCells->Calls Tryo.prog 54 #[.int .i64 y,.agg #[.int .i64 n,.bool l]] w fun e w'=>e= .returned (.tuple #[.string sn,.int .i64 0])/\Below w.heap.size w w'))(HD:Hid (∀w:World,Lib.TabIs Tryo.prog w "internal/strconv.uint64pow10" .u64 Lib.pow10Tab->Calls Tryo.prog 55 #[.int .i64 d] w fun e w'=>e= .returned (.string sd)/\Below w.heap.size w w'))(HY:Hid (∀w:World,Lib.TabIs Tryo.prog w "internal/strconv.uint64pow10" .u64 Lib.pow10Tab->Calls Tryo.prog 55 #[.int .i64 y] w fun e w'=>e= .returned (.string sy)/\Below w.heap.size w w'))(z1:sn.size<=100)(z2:sd.size<=100)(z3:sy.size<=100):
  Calls Tryo.prog 17 #[.agg #[.int .i64 y,.int .i64 n,.bool l,.int .i64 d]] w fun e w'=>e= .returned (.tuple #[.string (sd++⟨#[32]⟩++sn++⟨#[32]⟩++sy),.int .i64 (0)])/\Below w.heap.size w w':=by
 go_enter Tryo.func17,Tryz.ntmps17
 go_wp2_with fail
 refine(HC.out _ (Tab.below hT bem) (Tab.below hL bem)).mono ?_
 rintro e w1 ⟨rfl,hb1⟩
 obtain⟨hc1,hf1⟩:=aA hb1
 have hz1:=hb1.size
 try simp at hz1
 have hs1x0:w.heap.size<w1.heap.size:=by omega
 have⟨g1x0,g1x1,g1x2,g1x3⟩:=ce4 hc1 (w.heap.size) y n l d
 go_wp2_with fail
 refine(HM.out _ (Tab.below hT bem) (Tab.below hL bem) (Tab.below hN bem)).mono ?_
 rintro e w2 ⟨rfl,hb2⟩
 obtain⟨hc2,hf2⟩:=aA hb2
 have hz2:=hb2.size
 try simp at hz2
 have hs2x0:w.heap.size<w2.heap.size:=by omega
 have⟨g2x0,g2x1,g2x2,g2x3⟩:=ce4 hc2 (w.heap.size) y n l d
 go_wp2_with fail
 have hW2:Below w.heap.size w w2:=bel
 refine bI (by kernel_rfl) (by kernel_rfl) (fun hall=> ?_)
 repeat(first|go_big_quiet_skip|(go_big_quiet_want;first|(refine ql1 _ _ _ rfl rfl ?_;apply Exists.intro;refine⟨?_, ?_⟩;assumption;go_simp;go_big_quiet_on)|(refine ql2 _ _ _ _ rfl rfl ?_;apply Exists.intro;apply Exists.intro;refine⟨?_, ?_, ?_⟩;assumption;assumption;go_simp;go_big_quiet_on)|(refine ql3 _ _ _ _ rfl rfl ?_;apply Exists.intro;apply Exists.intro;apply Exists.intro;refine⟨?_, ?_, ?_, ?_⟩;assumption;assumption;assumption;go_simp;go_big_quiet_on)|(refine ql4 _ _ _ _ rfl rfl ?_;apply Exists.intro;apply Exists.intro;apply Exists.intro;apply Exists.intro;refine⟨?_, ?_, ?_, ?_, ?_⟩;assumption;assumption;assumption;assumption;go_simp;go_big_quiet_on)|(go_big_quiet_op;first|go_big_quiet_on|(apply Exists.intro;refine⟨fun x hx=> ?_, ?_⟩;(first|(with_reducible exact bQ hx (HD.out x (nN hI (bt hW2 hx))))|(with_reducible exact bQ hx (HY.out x (nN hI (bt hW2 hx))))|exact bQ hx (HD.out x (nN hI (bt hW2 hx)))|exact bQ hx (HY.out x (nN hI (bt hW2 hx))));go_big_quiet_on))))
 refine wpQuiet_nil ?_
 clear hall
 intro x3 hx3
 go_wp2_with fail
 go_ret2
 exact⟨rfl,bt hW2 hx3⟩
def WT(y n:Int)(l:Bool)(d:Int):ByteArray:=⟨(Lib.itoa d).toArray⟩++⟨#[32]⟩++dV y n l++⟨#[32]⟩++⟨(Lib.itoa y).toArray⟩
theorem Np(y n:Int)(l:Bool)(h:1<=n/\n<=12):(dV y n l).size<=100:=by
 unfold dV
 split
 ·decide
 ·split
  ·decide
  ·have hn:n=1∨n=2∨n=3∨n=4∨n=5∨n=6∨n=7∨n=8∨n=9∨n=10∨n=11∨n=12:=by omega
   rcases hn with rfl|rfl|rfl|rfl|rfl|rfl|rfl|rfl|rfl|rfl|rfl|rfl <;> decide
theorem NV(y n:Int)(l:Bool)(d:Int)(w:World)(hy:I64 y)(hd:I64 d)(hT:Tab w 7 kevCells)(hL:Tab w 5 lenCells)(hN:Tab w 3 nameCells)(hI:Lib.TabIs Tryo.prog w "internal/strconv.uint64pow10" .u64 Lib.pow10Tab):
  Calls Tryo.prog 17 #[.agg #[.int .i64 y,.int .i64 n,.bool l,.int .i64 d]] w fun e w'=>e= .returned (.tuple #[.string (if D10.aB y n l d=0 then WT y n l d else⟨#[]⟩),.int .i64 (D10.aB y n l d)])/\Below w.heap.size w w':=by
 have HC:=Lib.hid (fun w hT hL=>iY y n l d w hy hT hL)
 by_cases c:D10.aB y n l d=0
 ·rw [c]at HC
  rw [c,if_pos rfl]
  obtain⟨⟨y1,y2,_⟩,hp⟩:=D10.bG c
  have hL0:D10.bq y n l=0:=by
   unfold D10.bq
   rw [show Cal.bP y=true by simp [Cal.bP];omega,hp];rfl
  have HM:=Lib.hid (fun w hT hL hN=>N9 y n l w hy hT hL hN)
  rw [hL0,if_pos rfl]at HM
  have hr:1<=n/\n<=12:=by
   simp [Cal.dJ,Cal.right]at hp;omega
  exact FE y n l d _ _ _ w hT hL hN hI HC HM (Lib.hid (fun w h=>Ph d hd w h)) (Lib.hid (fun w h=>Ph y hy w h)) (Np y n l hr)
   (by have:=Lib.itoa_length_le d hd.1 hd.2;simp [ByteArray.size];omega) (by have:=Lib.itoa_length_le y hy.1 hy.2;simp [ByteArray.size];omega)
 ·rw [if_neg c]
  exact DJ y n l d _ w hT hL HC (by simpa using c)
end
section
open Go.ChangeShapes Go.WideShapes Go.ChangeAt Go.RowKit
def powU:List Value:=Lib.pow10Tab.map fun z=>Value.int .u64 z
theorem tabIs_of_tab{w:World}(h:Tab w 8 powU):Lib.TabIs Tryo.prog w "internal/strconv.uint64pow10" .u64 Lib.pow10Tab:=by
 obtain⟨t,h⟩:=h
 have hg:Tryo.prog.globalNamed "internal/strconv.uint64pow10" =some 8:=by kernel_rfl
 unfold Lib.TabIs World.var?
 simp only [hg,Option.bind_some,h]
 rfl
end
end Go.Proofs.YthnjjcoahdhmnaaGreatDoor
