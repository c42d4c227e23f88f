import Derived.Test.YthnjjcoahdhmnaaGreatDoorOHR
import Derived.RegionTactic
import Derived.Deep.RegionHeld3
import Derived.Test.YthnjjcoahdhmnaaGreatDoorOSH
import Derived.Test.YthnjjcoahdhmnaaGreatDoorOTL
import Derived.RangeFuncIn
import Derived.RangeFuncSeq
import Derived.RangeFuncRecord
import Derived.RangeFuncLeaves
import Derived.RangeFuncCalls
import Derived.Below
import Derived.RangeFuncNested
import Derived.RangeFuncBound
import Derived.Shelf.Abstract
import Derived.Shelf.RegionOpen
import Derived.WalkKit
import Derived.OwnWalkIn
import Derived.TacticsInMore
import Derived.LoopNIn
import Derived.LoopIn
set_option maxHeartbeats 8000000
set_option maxRecDepth 100000
set_option linter.unusedVariables false
namespace Go.Proofs.YthnjjcoahdhmnaaGreatDoor
section
open Go.ChangeShapes Go.WideShapes Go.ChangeAt Go.RowKit
theorem Cb(y n:Int)(l:Bool)(d:Int)(er:Int)(w:World)(hT:Tab w 7 kevCells)(hL:Tab w 5 lenCells)(HC:Hid (∀w:World,Tab w 7 kevCells->Tab w 5 lenCells->Calls Tryo.prog 21 #[.agg #[.int .i64 (y),.int .i64 (n),.bool (l),.int .i64 (d)]] w fun e w'=>e= .returned (.int .i64 (er))/\Below w.heap.size w w'))(h:(er !=0)=true):
  Calls Tryo.prog 66 #[.agg #[.int .i64 (y),.int .i64 (n),.bool (l),.int .i64 (d)]] w fun e w'=>e= .returned (.tuple #[.int .i64 0,.int .i64 (er)])/\Below w.heap.size w w':=by
 go_enter Tryo.func66,Tryz.ntmps66
 go_wp2_with fail
 refine(HC.out _ (Tab.below hT bel) (Tab.below hL bel)).mono ?_
 rintro e w1 ⟨rfl,hb1⟩
 obtain⟨hc1,hf1⟩:=aA hb1
 have hz1:=hb1.size
 try simp at hz1
 have hs1x0:w.heap.size<w1.heap.size:=by omega
 have⟨g1x0,g1x1,g1x2,g1x3⟩:=ce4 hc1 (w.heap.size) (y) (n) (l) (d)
 go_wp2_with fail
 go_ret2
 refine⟨by first|rfl|(simp [*];done), ?_⟩
 exact bel
theorem EB(y n:Int)(l:Bool)(d:Int)(v:Int)(w:World)(hT:Tab w 7 kevCells)(hL:Tab w 5 lenCells)(HC:Hid (∀w:World,Tab w 7 kevCells->Tab w 5 lenCells->Calls Tryo.prog 21 #[.agg #[.int .i64 (y),.int .i64 (n),.bool (l),.int .i64 (d)]] w fun e w'=>e= .returned (.int .i64 0)/\Below w.heap.size w w'))(HL:Hid (∀w:World,Tab w 7 kevCells->Tab w 5 lenCells->Calls Tryo.prog 129 #[.int .i64 y,.agg #[.int .i64 (n),.bool (l)]] w fun e w'=>e= .returned (.tuple #[.int .i64 (v),.int .i64 0])/\Below w.heap.size w w')):
  Calls Tryo.prog 66 #[.agg #[.int .i64 (y),.int .i64 (n),.bool (l),.int .i64 (d)]] w fun e w'=>e= .returned (.tuple #[.int .i64 (v),.int .i64 0])/\Below w.heap.size w w':=by
 go_enter Tryo.func66,Tryz.ntmps66
 go_wp2_with fail
 refine(HC.out _ (Tab.below hT bel) (Tab.below hL bel)).mono ?_
 rintro e w1 ⟨rfl,hb1⟩
 obtain⟨hc1,hf1⟩:=aA hb1
 have hz1:=hb1.size
 try simp at hz1
 have hs1x0:w.heap.size<w1.heap.size:=by omega
 have⟨g1x0,g1x1,g1x2,g1x3⟩:=ce4 hc1 (w.heap.size) (y) (n) (l) (d)
 go_wp2_with fail
 refine(HL.out _ (Tab.below hT bel) (Tab.below hL bel)).mono ?_
 rintro e w2 ⟨rfl,hb2⟩
 obtain⟨hc2,hf2⟩:=aA hb2
 have hz2:=hb2.size
 try simp at hz2
 go_wp2_with fail
 go_ret2
 refine⟨by first|rfl|(simp [*];done), ?_⟩
 exact bel
theorem qh(y n:Int)(l:Bool)(d:Int)(w:World)(hy:I64 y)(hT:Tab w 7 kevCells)(hL:Tab w 5 lenCells):
  Calls Tryo.prog 66 #[.agg #[.int .i64 (y),.int .i64 (n),.bool (l),.int .i64 (d)]] w fun e w'=>e= .returned (.tuple #[.int .i64 (if D10.aB y n l d=0 then D10.aZ y n l else 0),.int .i64 (D10.aB y n l d)])/\Below w.heap.size w w':=by
 have HC:=Lib.hid (fun w hT hL=>iY y n l d w hy hT hL)
 by_cases c:D10.aB y n l d=0
 ·obtain⟨⟨y1,y2,_⟩,hp⟩:=D10.bG c
  have HL:=Lib.hid (fun w hT hL=>dN y n l w hy hT hL)
  rw [show D10.bq y n l=0 by simp [D10.bq,Cal.dD y y1 y2,hp]]at HL
  rw [c]at HC
  rw [c,if_pos rfl]
  exact EB y n l d _ w hT hL HC HL
 ·rw [if_neg c]
  exact Cb y n l d _ w hT hL HC (by simpa using c)
theorem BU(y n:Int)(l:Bool)(d:Int)(by' kb kk:Int)(lp:Bool)(pl:Int)(po:Bool)(on:Int)(ol oo:Bool)(w:World)(HK:Hid (∀w:World,Calls Tryo.prog 105 #[.int .i64 (y)] w fun e w'=>e= .returned (.tuple #[.agg #[.int .i64 (kb),.int .i64 (kk),.bool (lp)],.int .i64 (0)])/\Below w.heap.size w w'))(HP:Hid (∀w:World,Calls Tryo.prog 191 #[.bool lp,.agg #[.int .i64 (n),.bool (l)]] w fun e w'=>e= .returned (.tuple #[.int .i64 (pl),.bool (po)])/\Below w.heap.size w w'))(HO:Hid (∀w:World,Calls Tryo.prog 73 #[.bool lp,.int .i64 (pl+by')] w fun e w'=>e= .returned (.tuple #[.agg #[.int .i64 (on),.bool (ol)],.bool (oo)])/\Below w.heap.size w w'))(p1:1<=pl/\pl<=13)(b1: -1<=by'/\by'<=1):
  Calls Tryo.prog 139 #[.agg #[.int .i64 (y),.int .i64 (n),.bool (l),.int .i64 (d)],.int .i64 by'] w fun e w'=>e= .returned (.tuple #[.agg #[.int .i64 (on),.bool (ol)],.bool (oo)])/\Below w.heap.size w w':=by
 obtain⟨p1,p2⟩:=p1
 obtain⟨b1,b2⟩:=b1
 go_enter Tryo.func139,Tryz.ntmps139
 go_wp2_with fail
 refine(HK.out _).mono ?_
 rintro e w1 ⟨rfl,hb1⟩
 obtain⟨hc1,hf1⟩:=aA hb1
 have hz1:=hb1.size
 try simp at hz1
 have hs1x0:w.heap.size<w1.heap.size:=by omega
 have hs1x1:(w.heap.size+1)<w1.heap.size:=by omega
 have⟨g1x0,g1x1,g1x2,g1x3⟩:=ce4 hc1 (w.heap.size) (y) (n) (l) (d)
 have g1x4:w1.cell? ⟨(w.heap.size+1),0,none⟩=some (.int .i64 0):=cel hc1
 have g1x5:w1.cell? ⟨(w.heap.size+1),1,none⟩=some (.bool false):=cel hc1
 go_wp2_with fail
 refine(HP.out _).mono ?_
 rintro e w2 ⟨rfl,hb2⟩
 obtain⟨hc2,hf2⟩:=aA hb2
 have hz2:=hb2.size
 try simp at hz2
 have hl2w1:w1.heap.size<w2.heap.size:=by omega
 have hm2w1:w1.heap.size<=w2.heap.size:=by omega
 have hs2x0:w.heap.size<w2.heap.size:=by omega
 have hs2x1:(w.heap.size+1)<w2.heap.size:=by omega
 have⟨g2x0,g2x1,g2x2,g2x3⟩:=ce4 hc2 (w.heap.size) (y) (n) (l) (d)
 have g2x4:w2.cell? ⟨(w.heap.size+1),0,none⟩=some (.int .i64 0):=cel hc2
 have g2x5:w2.cell? ⟨(w.heap.size+1),1,none⟩=some (.bool false):=cel hc2
 have g2x6:w2.cell? ⟨w1.heap.size,0,none⟩=some (.int .i64 (kb)):=cel hc2
 have g2x7:w2.cell? ⟨w1.heap.size,1,none⟩=some (.int .i64 (kk)):=cel hc2
 have g2x8:w2.cell? ⟨w1.heap.size,2,none⟩=some (.bool (lp)):=cel hc2
 go_wp2_with fail
 refine(HO.out _).mono ?_
 rintro e w3 ⟨rfl,hb3⟩
 obtain⟨hc3,hf3⟩:=aA hb3
 have hz3:=hb3.size
 try simp at hz3
 have hs3x0:(w.heap.size+1)<w3.heap.size:=by omega
 have g3x0:w3.cell? ⟨(w.heap.size+1),0,none⟩=some (.int .i64 0):=cel hc3
 have g3x1:w3.cell? ⟨(w.heap.size+1),1,none⟩=some (.bool false):=cel hc3
 go_wp2_with fail
 refine bodyPost_ret (v:= .tuple #[.agg #[.int .i64 (on),.bool (ol)],.bool (oo)]) (by simp [results,Tryz.results139,go_sem, *]) rfl ⟨rfl, ?_⟩
 exact bel
theorem zD(y n:Int)(l:Bool)(d:Int)(by':Int)(w:World)(hd:D10.aB y n l d=0)(b1: -1<=by'/\by'<=1)(d':Int):
  Calls Tryo.prog 139 #[.agg #[.int .i64 (y),.int .i64 (n),.bool (l),.int .i64 (d')],.int .i64 by'] w fun e w'=>e= .returned (.tuple #[.agg #[.int .i64 (Cal.ofN (Cal.leap y) (Cal.plV (Cal.leap y) n l+by')),.bool (Cal.ofL (Cal.leap y) (Cal.plV (Cal.leap y) n l+by'))],.bool (Cal.jZ (Cal.leap y) (Cal.plV (Cal.leap y) n l+by'))])/\Below w.heap.size w w':=by
 obtain⟨⟨y1,y2,m1,m2,_⟩,hp⟩:=D10.bG hd
 have hm:Cal.most (Cal.leap y)<=13:=by unfold Cal.most;split <;> omega
 exact BU y n l d' by' _ _ _ _ _ _ _ _ w (Lib.hid fun w=>zh y w y1 y2) (Lib.hid fun w=>bU (Cal.leap y) n l w) (Lib.hid fun w=>qJ (Cal.leap y) _ w (by omega)) ⟨m1,by omega⟩ b1
theorem Ho(y n:Int)(l:Bool)(v:Int)(w:World)(hT:Tab w 7 kevCells)(hL:Tab w 5 lenCells)(HL:Hid (∀w:World,Tab w 7 kevCells->Tab w 5 lenCells->Calls Tryo.prog 129 #[.int .i64 y,.agg #[.int .i64 (n),.bool (l)]] w fun e w'=>e= .returned (.tuple #[.int .i64 (v),.int .i64 0])/\Below w.heap.size w w')):
  Calls Tryo.prog 140 #[.int .i64 y,.agg #[.int .i64 (n),.bool (l)]] w fun e w'=>e= .returned (.tuple #[.agg #[.int .i64 (y),.int .i64 (n),.bool (l),.int .i64 (v)],.int .i64 (0)])/\Below w.heap.size w w':=by
 go_enter Tryo.func140,Tryz.ntmps140
 go_wp2_with fail
 refine(HL.out _ (Tab.below hT bel) (Tab.below hL bel)).mono ?_
 rintro e w1 ⟨rfl,hb1⟩
 obtain⟨hc1,hf1⟩:=aA hb1
 have hz1:=hb1.size
 try simp at hz1
 have hs1x0:w.heap.size<w1.heap.size:=by omega
 have hs1x1:(w.heap.size+1)<w1.heap.size:=by omega
 have g1x0:w1.cell? ⟨w.heap.size,0,none⟩=some (.int .i64 n):=cel hc1
 have g1x1:w1.cell? ⟨w.heap.size,1,none⟩=some (.bool l):=cel hc1
 have⟨g1x2,g1x3,g1x4,g1x5⟩:=ce4 hc1 (w.heap.size+1) (0) (0) (false) (0)
 go_wp2_with fail
 refine bodyPost_ret (v:= .tuple #[.agg #[.int .i64 (y),.int .i64 (n),.bool (l),.int .i64 (v)],.int .i64 (0)]) (by simp [results,Tryz.results140,go_sem, *]) rfl ⟨rfl, ?_⟩
 exact bel
end
section
open Go.ChangeShapes Go.WideShapes Go.ChangeAt Go.RowKit
namespace D27
def Ns(y n:Int)(l:Bool)(d ry rn:Int)(rl:Bool)(rd er:Int):Prop:=
 (¬ D10.aB y n l d=0/\er=D10.aB y n l d/\ry=0/\rn=0/\rl=false/\rd=0)∨
 (D10.aB y n l d=0/\D10.aF y n l d=2278650/\er=2/\ry=0/\rn=0/\rl=false/\rd=0)∨
 (D10.aB y n l d=0/\er=0/\D10.aB ry rn rl rd=0/\D10.aF ry rn rl rd=D10.aF y n l d+1)
def IX(y n:Int)(l:Bool)(d ry rn:Int)(rl:Bool)(rd er:Int):Prop:=
 (¬ D10.aB y n l d=0/\er=D10.aB y n l d/\ry=0/\rn=0/\rl=false/\rd=0)∨
 (D10.aB y n l d=0/\D10.aF y n l d= -1373427/\er=2/\ry=0/\rn=0/\rl=false/\rd=0)∨
 (D10.aB y n l d=0/\er=0/\D10.aB ry rn rl rd=0/\D10.aF ry rn rl rd=D10.aF y n l d-1)
theorem Le{D:Int}(h1: -1373427<=D)(h2:D<=2278650):∃ (ry rn:Int) (rl:Bool) (rd:Int),D10.aB ry rn rl rd=0/\D10.aF ry rn rl rd=D:=by
 obtain⟨ry,rm,rd,hv,e⟩:=D10.sN D h1 h2
 obtain⟨a,b⟩:=D10.uZ hv
 exact⟨ry,_,_,rd,a,b.trans e.symm⟩
theorem ug{y n m d:Int}{l:Bool}(hv:D10.Valid y m d)(hn:Cal.ofN (Cal.leap y) m=n)(hl:Cal.ofL (Cal.leap y) m=l):D10.aB y n l d=0/\D10.aF y n l d=D10.bn y m d:=by
 subst hn;subst hl
 exact D10.uZ hv
theorem P6(lp:Bool)(m:Int):Cal.jZ lp m=(decide (1<=m)&&decide (m<=Cal.most lp)):=rfl
theorem Nb(lp:Bool):Cal.ofL lp (Cal.most lp)=false:=by cases lp <;> decide
theorem D5{y m:Int}(h1:1<=y)(h2:y<=9999)(m1:1<=m)(m2:m+1<=Cal.most (Cal.leap y)):D10.bn y (m+1) 1=D10.bn y m (D10.dLen y m)+1:=by
 have:=D10.NJ y m h1 h2 m1 m2
 unfold D10.bn;omega
theorem D8{y:Int}(h1:1<=y)(h2:y+1<=9999):D10.bn (y+1) 1 1=D10.bn y (Cal.most (Cal.leap y)) (D10.dLen y (Cal.most (Cal.leap y)))+1:=by
 have a:=D10.uP y h1 (by omega)
 have b:=D10.sU (y+1) (by omega) h2
 have hl:Cal.long y=Cal.first (y+1)-Cal.first y:=rfl
 unfold D10.bn;omega
theorem NN:D10.bn 9999 (Cal.most (Cal.leap 9999)) (D10.dLen 9999 (Cal.most (Cal.leap 9999)))=2278650:=by
 have a:=D10.uP 9999 (by omega) (by omega)
 have hl:Cal.long 9999=Cal.first 10000-Cal.first 9999:=rfl
 have f:=oz
 unfold D10.bn;omega
theorem KG:D10.bn 1 1 1= -1373427:=by
 have b:=D10.sU 1 (by omega) (by omega)
 have f:=sj
 unfold D10.bn;omega
end D27
theorem DL(y n:Int)(l:Bool)(d:Int)(v er:Int)(w:World)(hT:Tab w 7 kevCells)(hL:Tab w 5 lenCells)(HC:Hid (∀w:World,Tab w 7 kevCells->Tab w 5 lenCells->Calls Tryo.prog 66 #[.agg #[.int .i64 (y),.int .i64 (n),.bool (l),.int .i64 (d)]] w fun e w'=>e= .returned (.tuple #[.int .i64 (v),.int .i64 (er)])/\Below w.heap.size w w'))(h:(er !=0)=true):
  Calls Tryo.prog 67 #[.agg #[.int .i64 (y),.int .i64 (n),.bool (l),.int .i64 (d)]] w fun e w'=>e= .returned (.tuple #[.agg #[.int .i64 (0),.int .i64 (0),.bool (false),.int .i64 (0)],.int .i64 (er)])/\Below w.heap.size w w':=by
 go_enter Tryo.func67,Tryz.ntmps67
 go_wp2_with fail
 refine(HC.out _ (Tab.below hT bel) (Tab.below hL bel)).mono ?_
 rintro e w1 ⟨rfl,hb1⟩
 obtain⟨hc1,hf1⟩:=aA hb1
 have hz1:=hb1.size
 try simp at hz1
 have hs1x0:w.heap.size<w1.heap.size:=by omega
 have hs1x1:(w.heap.size+1)<w1.heap.size:=by omega
 have⟨g1x0,g1x1,g1x2,g1x3⟩:=ce4 hc1 (w.heap.size) (y) (n) (l) (d)
 have⟨g1x4,g1x5,g1x6,g1x7⟩:=ce4 hc1 (w.heap.size+1) (0) (0) (false) (0)
 have z1x0:w1.frozen? ⟨w.heap.size,0,none⟩=false:=fro hf1
 have z1x1:w1.frozen? ⟨w.heap.size,1,none⟩=false:=fro hf1
 have z1x2:w1.frozen? ⟨w.heap.size,2,none⟩=false:=fro hf1
 have z1x3:w1.frozen? ⟨w.heap.size,3,none⟩=false:=fro hf1
 have z1x4:w1.frozen? ⟨(w.heap.size+1),0,none⟩=false:=fro hf1
 have z1x5:w1.frozen? ⟨(w.heap.size+1),1,none⟩=false:=fro hf1
 have z1x6:w1.frozen? ⟨(w.heap.size+1),2,none⟩=false:=fro hf1
 have z1x7:w1.frozen? ⟨(w.heap.size+1),3,none⟩=false:=fro hf1
 go_wp2_with fail
 refine bodyPost_ret (v:= .tuple #[.agg #[.int .i64 (0),.int .i64 (0),.bool (false),.int .i64 (0)],.int .i64 (er)]) (by simp [results,Tryz.results67,go_sem, *]) rfl ⟨rfl, ?_⟩
 exact bel
theorem Cj(y n:Int)(l:Bool)(d:Int)(v er:Int)(w:World)(hT:Tab w 7 kevCells)(hL:Tab w 5 lenCells)(HC:Hid (∀w:World,Tab w 7 kevCells->Tab w 5 lenCells->Calls Tryo.prog 66 #[.agg #[.int .i64 (y),.int .i64 (n),.bool (l),.int .i64 (d)]] w fun e w'=>e= .returned (.tuple #[.int .i64 (v),.int .i64 (er)])/\Below w.heap.size w w'))(h:(er !=0)=true):
  Calls Tryo.prog 68 #[.agg #[.int .i64 (y),.int .i64 (n),.bool (l),.int .i64 (d)]] w fun e w'=>e= .returned (.tuple #[.agg #[.int .i64 (0),.int .i64 (0),.bool (false),.int .i64 (0)],.int .i64 (er)])/\Below w.heap.size w w':=by
 go_enter Tryo.func68,Tryz.ntmps68
 go_wp2_with fail
 refine(HC.out _ (Tab.below hT bel) (Tab.below hL bel)).mono ?_
 rintro e w1 ⟨rfl,hb1⟩
 obtain⟨hc1,hf1⟩:=aA hb1
 have hz1:=hb1.size
 try simp at hz1
 have hs1x0:w.heap.size<w1.heap.size:=by omega
 have hs1x1:(w.heap.size+1)<w1.heap.size:=by omega
 have⟨g1x0,g1x1,g1x2,g1x3⟩:=ce4 hc1 (w.heap.size) (y) (n) (l) (d)
 have⟨g1x4,g1x5,g1x6,g1x7⟩:=ce4 hc1 (w.heap.size+1) (0) (0) (false) (0)
 have z1x0:w1.frozen? ⟨w.heap.size,0,none⟩=false:=fro hf1
 have z1x1:w1.frozen? ⟨w.heap.size,1,none⟩=false:=fro hf1
 have z1x2:w1.frozen? ⟨w.heap.size,2,none⟩=false:=fro hf1
 have z1x3:w1.frozen? ⟨w.heap.size,3,none⟩=false:=fro hf1
 have z1x4:w1.frozen? ⟨(w.heap.size+1),0,none⟩=false:=fro hf1
 have z1x5:w1.frozen? ⟨(w.heap.size+1),1,none⟩=false:=fro hf1
 have z1x6:w1.frozen? ⟨(w.heap.size+1),2,none⟩=false:=fro hf1
 have z1x7:w1.frozen? ⟨(w.heap.size+1),3,none⟩=false:=fro hf1
 go_wp2_with fail
 refine bodyPost_ret (v:= .tuple #[.agg #[.int .i64 (0),.int .i64 (0),.bool (false),.int .i64 (0)],.int .i64 (er)]) (by simp [results,Tryz.results68,go_sem, *]) rfl ⟨rfl, ?_⟩
 exact bel
theorem CZ(y n:Int)(l:Bool)(d:Int)(v:Int)(w:World)(hT:Tab w 7 kevCells)(hL:Tab w 5 lenCells)(HC:Hid (∀w:World,Tab w 7 kevCells->Tab w 5 lenCells->Calls Tryo.prog 66 #[.agg #[.int .i64 (y),.int .i64 (n),.bool (l),.int .i64 (d)]] w fun e w'=>e= .returned (.tuple #[.int .i64 (v),.int .i64 (0)])/\Below w.heap.size w w'))(hd:1<=d/\d<=30)(h:d<v):
  Calls Tryo.prog 67 #[.agg #[.int .i64 (y),.int .i64 (n),.bool (l),.int .i64 (d)]] w fun e w'=>e= .returned (.tuple #[.agg #[.int .i64 (y),.int .i64 (n),.bool (l),.int .i64 (d+1)],.int .i64 (0)])/\Below w.heap.size w w':=by
 obtain⟨d1,d2⟩:=hd
 go_enter Tryo.func67,Tryz.ntmps67
 go_wp2_with fail
 refine(HC.out _ (Tab.below hT bel) (Tab.below hL bel)).mono ?_
 rintro e w1 ⟨rfl,hb1⟩
 obtain⟨hc1,hf1⟩:=aA hb1
 have hz1:=hb1.size
 try simp at hz1
 have hs1x0:w.heap.size<w1.heap.size:=by omega
 have hs1x1:(w.heap.size+1)<w1.heap.size:=by omega
 have⟨g1x0,g1x1,g1x2,g1x3⟩:=ce4 hc1 (w.heap.size) (y) (n) (l) (d)
 have⟨g1x4,g1x5,g1x6,g1x7⟩:=ce4 hc1 (w.heap.size+1) (0) (0) (false) (0)
 have z1x0:w1.frozen? ⟨w.heap.size,0,none⟩=false:=fro hf1
 have z1x1:w1.frozen? ⟨w.heap.size,1,none⟩=false:=fro hf1
 have z1x2:w1.frozen? ⟨w.heap.size,2,none⟩=false:=fro hf1
 have z1x3:w1.frozen? ⟨w.heap.size,3,none⟩=false:=fro hf1
 have z1x4:w1.frozen? ⟨(w.heap.size+1),0,none⟩=false:=fro hf1
 have z1x5:w1.frozen? ⟨(w.heap.size+1),1,none⟩=false:=fro hf1
 have z1x6:w1.frozen? ⟨(w.heap.size+1),2,none⟩=false:=fro hf1
 have z1x7:w1.frozen? ⟨(w.heap.size+1),3,none⟩=false:=fro hf1
 go_wp2_with fail
 refine bodyPost_ret (v:= .tuple #[.agg #[.int .i64 (y),.int .i64 (n),.bool (l),.int .i64 (d+1)],.int .i64 (0)]) (by simp [results,Tryz.results67,go_sem, *]) rfl ⟨rfl, ?_⟩
 exact bel
theorem BX(y n:Int)(l:Bool)(d:Int)(v:Int)(w:World)(hT:Tab w 7 kevCells)(hL:Tab w 5 lenCells)(HC:Hid (∀w:World,Tab w 7 kevCells->Tab w 5 lenCells->Calls Tryo.prog 66 #[.agg #[.int .i64 (y),.int .i64 (n),.bool (l),.int .i64 (d)]] w fun e w'=>e= .returned (.tuple #[.int .i64 (v),.int .i64 (0)])/\Below w.heap.size w w'))(hd:1<=d/\d<=30)(h:1<d):
  Calls Tryo.prog 68 #[.agg #[.int .i64 (y),.int .i64 (n),.bool (l),.int .i64 (d)]] w fun e w'=>e= .returned (.tuple #[.agg #[.int .i64 (y),.int .i64 (n),.bool (l),.int .i64 (d-1)],.int .i64 (0)])/\Below w.heap.size w w':=by
 obtain⟨d1,d2⟩:=hd
 go_enter Tryo.func68,Tryz.ntmps68
 go_wp2_with fail
 refine(HC.out _ (Tab.below hT bel) (Tab.below hL bel)).mono ?_
 rintro e w1 ⟨rfl,hb1⟩
 obtain⟨hc1,hf1⟩:=aA hb1
 have hz1:=hb1.size
 try simp at hz1
 have hs1x0:w.heap.size<w1.heap.size:=by omega
 have hs1x1:(w.heap.size+1)<w1.heap.size:=by omega
 have⟨g1x0,g1x1,g1x2,g1x3⟩:=ce4 hc1 (w.heap.size) (y) (n) (l) (d)
 have⟨g1x4,g1x5,g1x6,g1x7⟩:=ce4 hc1 (w.heap.size+1) (0) (0) (false) (0)
 have z1x0:w1.frozen? ⟨w.heap.size,0,none⟩=false:=fro hf1
 have z1x1:w1.frozen? ⟨w.heap.size,1,none⟩=false:=fro hf1
 have z1x2:w1.frozen? ⟨w.heap.size,2,none⟩=false:=fro hf1
 have z1x3:w1.frozen? ⟨w.heap.size,3,none⟩=false:=fro hf1
 have z1x4:w1.frozen? ⟨(w.heap.size+1),0,none⟩=false:=fro hf1
 have z1x5:w1.frozen? ⟨(w.heap.size+1),1,none⟩=false:=fro hf1
 have z1x6:w1.frozen? ⟨(w.heap.size+1),2,none⟩=false:=fro hf1
 have z1x7:w1.frozen? ⟨(w.heap.size+1),3,none⟩=false:=fro hf1
 go_wp2_with fail
 refine bodyPost_ret (v:= .tuple #[.agg #[.int .i64 (y),.int .i64 (n),.bool (l),.int .i64 (d-1)],.int .i64 (0)]) (by simp [results,Tryz.results68,go_sem, *]) rfl ⟨rfl, ?_⟩
 exact bel
theorem AA(y n:Int)(l:Bool)(d:Int)(v on:Int)(ol:Bool)(w:World)(hT:Tab w 7 kevCells)(hL:Tab w 5 lenCells)(HC:Hid (∀w:World,Tab w 7 kevCells->Tab w 5 lenCells->Calls Tryo.prog 66 #[.agg #[.int .i64 (y),.int .i64 (n),.bool (l),.int .i64 (d)]] w fun e w'=>e= .returned (.tuple #[.int .i64 (v),.int .i64 (0)])/\Below w.heap.size w w'))(HB:Hid (∀w:World,Calls Tryo.prog 139 #[.agg #[.int .i64 (y),.int .i64 (n),.bool (l),.int .i64 (1)],.int .i64 (1)] w fun e w'=>e= .returned (.tuple #[.agg #[.int .i64 (on),.bool (ol)],.bool true])/\Below w.heap.size w w'))(h:v<=d):
  Calls Tryo.prog 67 #[.agg #[.int .i64 (y),.int .i64 (n),.bool (l),.int .i64 (d)]] w fun e w'=>e= .returned (.tuple #[.agg #[.int .i64 (y),.int .i64 (on),.bool (ol),.int .i64 (1)],.int .i64 (0)])/\Below w.heap.size w w':=by
 go_enter Tryo.func67,Tryz.ntmps67
 go_wp2_with fail
 refine(HC.out _ (Tab.below hT bel) (Tab.below hL bel)).mono ?_
 rintro e w1 ⟨rfl,hb1⟩
 obtain⟨hc1,hf1⟩:=aA hb1
 have hz1:=hb1.size
 try simp at hz1
 have hs1x0:w.heap.size<w1.heap.size:=by omega
 have hs1x1:(w.heap.size+1)<w1.heap.size:=by omega
 have⟨g1x0,g1x1,g1x2,g1x3⟩:=ce4 hc1 (w.heap.size) (y) (n) (l) (d)
 have⟨g1x4,g1x5,g1x6,g1x7⟩:=ce4 hc1 (w.heap.size+1) (0) (0) (false) (0)
 have z1x0:w1.frozen? ⟨w.heap.size,0,none⟩=false:=fro hf1
 have z1x1:w1.frozen? ⟨w.heap.size,1,none⟩=false:=fro hf1
 have z1x2:w1.frozen? ⟨w.heap.size,2,none⟩=false:=fro hf1
 have z1x3:w1.frozen? ⟨w.heap.size,3,none⟩=false:=fro hf1
 have z1x4:w1.frozen? ⟨(w.heap.size+1),0,none⟩=false:=fro hf1
 have z1x5:w1.frozen? ⟨(w.heap.size+1),1,none⟩=false:=fro hf1
 have z1x6:w1.frozen? ⟨(w.heap.size+1),2,none⟩=false:=fro hf1
 have z1x7:w1.frozen? ⟨(w.heap.size+1),3,none⟩=false:=fro hf1
 go_wp2_with fail
 refine(HB.out _).mono ?_
 rintro e w2 ⟨rfl,hb2⟩
 obtain⟨hc2,hf2⟩:=aA hb2
 have hz2:=hb2.size
 try simp at hz2
 have hs2x0:w.heap.size<w2.heap.size:=by omega
 have hs2x1:(w.heap.size+1)<w2.heap.size:=by omega
 have⟨g2x0,g2x1,g2x2,g2x3⟩:=ce4 hc2 (w.heap.size) (y) (n) (l) (1)
 have⟨g2x4,g2x5,g2x6,g2x7⟩:=ce4 hc2 (w.heap.size+1) (0) (0) (false) (0)
 have z2x0:w2.frozen? ⟨w.heap.size,0,none⟩=false:=fro hf2
 have z2x1:w2.frozen? ⟨w.heap.size,1,none⟩=false:=fro hf2
 have z2x2:w2.frozen? ⟨w.heap.size,2,none⟩=false:=fro hf2
 have z2x3:w2.frozen? ⟨w.heap.size,3,none⟩=false:=fro hf2
 have z2x4:w2.frozen? ⟨(w.heap.size+1),0,none⟩=false:=fro hf2
 have z2x5:w2.frozen? ⟨(w.heap.size+1),1,none⟩=false:=fro hf2
 have z2x6:w2.frozen? ⟨(w.heap.size+1),2,none⟩=false:=fro hf2
 have z2x7:w2.frozen? ⟨(w.heap.size+1),3,none⟩=false:=fro hf2
 go_wp2_with fail
 refine bodyPost_ret (v:= .tuple #[.agg #[.int .i64 (y),.int .i64 (on),.bool (ol),.int .i64 (1)],.int .i64 (0)]) (by simp [results,Tryz.results67,go_sem, *]) rfl ⟨rfl, ?_⟩
 exact bel
theorem Cc(n:Int)(l:Bool)(d:Int)(v on:Int)(ol:Bool)(w:World)(hT:Tab w 7 kevCells)(hL:Tab w 5 lenCells)(HC:Hid (∀w:World,Tab w 7 kevCells->Tab w 5 lenCells->Calls Tryo.prog 66 #[.agg #[.int .i64 9999,.int .i64 (n),.bool (l),.int .i64 (d)]] w fun e w'=>e= .returned (.tuple #[.int .i64 (v),.int .i64 (0)])/\Below w.heap.size w w'))(HB:Hid (∀w:World,Calls Tryo.prog 139 #[.agg #[.int .i64 9999,.int .i64 (n),.bool (l),.int .i64 (1)],.int .i64 (1)] w fun e w'=>e= .returned (.tuple #[.agg #[.int .i64 (on),.bool (ol)],.bool false])/\Below w.heap.size w w'))(h:v<=d):
  Calls Tryo.prog 67 #[.agg #[.int .i64 (9999),.int .i64 (n),.bool (l),.int .i64 (d)]] w fun e w'=>e= .returned (.tuple #[.agg #[.int .i64 (0),.int .i64 (0),.bool (false),.int .i64 (0)],.int .i64 (2)])/\Below w.heap.size w w':=by
 go_enter Tryo.func67,Tryz.ntmps67
 go_wp2_with fail
 refine(HC.out _ (Tab.below hT bel) (Tab.below hL bel)).mono ?_
 rintro e w1 ⟨rfl,hb1⟩
 obtain⟨hc1,hf1⟩:=aA hb1
 have hz1:=hb1.size
 try simp at hz1
 have hs1x0:w.heap.size<w1.heap.size:=by omega
 have hs1x1:(w.heap.size+1)<w1.heap.size:=by omega
 have⟨g1x0,g1x1,g1x2,g1x3⟩:=ce4 hc1 (w.heap.size) 9999 (n) (l) (d)
 have⟨g1x4,g1x5,g1x6,g1x7⟩:=ce4 hc1 (w.heap.size+1) (0) (0) (false) (0)
 have z1x0:w1.frozen? ⟨w.heap.size,0,none⟩=false:=fro hf1
 have z1x1:w1.frozen? ⟨w.heap.size,1,none⟩=false:=fro hf1
 have z1x2:w1.frozen? ⟨w.heap.size,2,none⟩=false:=fro hf1
 have z1x3:w1.frozen? ⟨w.heap.size,3,none⟩=false:=fro hf1
 have z1x4:w1.frozen? ⟨(w.heap.size+1),0,none⟩=false:=fro hf1
 have z1x5:w1.frozen? ⟨(w.heap.size+1),1,none⟩=false:=fro hf1
 have z1x6:w1.frozen? ⟨(w.heap.size+1),2,none⟩=false:=fro hf1
 have z1x7:w1.frozen? ⟨(w.heap.size+1),3,none⟩=false:=fro hf1
 go_wp2_with fail
 refine(HB.out _).mono ?_
 rintro e w2 ⟨rfl,hb2⟩
 obtain⟨hc2,hf2⟩:=aA hb2
 have hz2:=hb2.size
 try simp at hz2
 have hs2x0:w.heap.size<w2.heap.size:=by omega
 have hs2x1:(w.heap.size+1)<w2.heap.size:=by omega
 have⟨g2x0,g2x1,g2x2,g2x3⟩:=ce4 hc2 (w.heap.size) 9999 (n) (l) (1)
 have⟨g2x4,g2x5,g2x6,g2x7⟩:=ce4 hc2 (w.heap.size+1) (0) (0) (false) (0)
 have z2x0:w2.frozen? ⟨w.heap.size,0,none⟩=false:=fro hf2
 have z2x1:w2.frozen? ⟨w.heap.size,1,none⟩=false:=fro hf2
 have z2x2:w2.frozen? ⟨w.heap.size,2,none⟩=false:=fro hf2
 have z2x3:w2.frozen? ⟨w.heap.size,3,none⟩=false:=fro hf2
 have z2x4:w2.frozen? ⟨(w.heap.size+1),0,none⟩=false:=fro hf2
 have z2x5:w2.frozen? ⟨(w.heap.size+1),1,none⟩=false:=fro hf2
 have z2x6:w2.frozen? ⟨(w.heap.size+1),2,none⟩=false:=fro hf2
 have z2x7:w2.frozen? ⟨(w.heap.size+1),3,none⟩=false:=fro hf2
 go_wp2_with fail
 refine bodyPost_ret (v:= .tuple #[.agg #[.int .i64 (0),.int .i64 (0),.bool (false),.int .i64 (0)],.int .i64 (2)]) (by simp [results,Tryz.results67,go_sem, *]) rfl ⟨rfl, ?_⟩
 exact bel
theorem BN(y n:Int)(l:Bool)(d:Int)(v on:Int)(ol:Bool)(w:World)(hT:Tab w 7 kevCells)(hL:Tab w 5 lenCells)(HC:Hid (∀w:World,Tab w 7 kevCells->Tab w 5 lenCells->Calls Tryo.prog 66 #[.agg #[.int .i64 (y),.int .i64 (n),.bool (l),.int .i64 (d)]] w fun e w'=>e= .returned (.tuple #[.int .i64 (v),.int .i64 (0)])/\Below w.heap.size w w'))(HB:Hid (∀w:World,Calls Tryo.prog 139 #[.agg #[.int .i64 (y),.int .i64 (n),.bool (l),.int .i64 (1)],.int .i64 (1)] w fun e w'=>e= .returned (.tuple #[.agg #[.int .i64 (on),.bool (ol)],.bool false])/\Below w.heap.size w w'))(h:v<=d)(y1:1<=y)(y2:y<9999):
  Calls Tryo.prog 67 #[.agg #[.int .i64 (y),.int .i64 (n),.bool (l),.int .i64 (d)]] w fun e w'=>e= .returned (.tuple #[.agg #[.int .i64 (y+1),.int .i64 (1),.bool (false),.int .i64 (1)],.int .i64 (0)])/\Below w.heap.size w w':=by
 go_enter Tryo.func67,Tryz.ntmps67
 go_wp2_with fail
 refine(HC.out _ (Tab.below hT bel) (Tab.below hL bel)).mono ?_
 rintro e w1 ⟨rfl,hb1⟩
 obtain⟨hc1,hf1⟩:=aA hb1
 have hz1:=hb1.size
 try simp at hz1
 have hs1x0:w.heap.size<w1.heap.size:=by omega
 have hs1x1:(w.heap.size+1)<w1.heap.size:=by omega
 have⟨g1x0,g1x1,g1x2,g1x3⟩:=ce4 hc1 (w.heap.size) (y) (n) (l) (d)
 have⟨g1x4,g1x5,g1x6,g1x7⟩:=ce4 hc1 (w.heap.size+1) (0) (0) (false) (0)
 have z1x0:w1.frozen? ⟨w.heap.size,0,none⟩=false:=fro hf1
 have z1x1:w1.frozen? ⟨w.heap.size,1,none⟩=false:=fro hf1
 have z1x2:w1.frozen? ⟨w.heap.size,2,none⟩=false:=fro hf1
 have z1x3:w1.frozen? ⟨w.heap.size,3,none⟩=false:=fro hf1
 have z1x4:w1.frozen? ⟨(w.heap.size+1),0,none⟩=false:=fro hf1
 have z1x5:w1.frozen? ⟨(w.heap.size+1),1,none⟩=false:=fro hf1
 have z1x6:w1.frozen? ⟨(w.heap.size+1),2,none⟩=false:=fro hf1
 have z1x7:w1.frozen? ⟨(w.heap.size+1),3,none⟩=false:=fro hf1
 go_wp2_with fail
 refine(HB.out _).mono ?_
 rintro e w2 ⟨rfl,hb2⟩
 obtain⟨hc2,hf2⟩:=aA hb2
 have hz2:=hb2.size
 try simp at hz2
 have hs2x0:w.heap.size<w2.heap.size:=by omega
 have hs2x1:(w.heap.size+1)<w2.heap.size:=by omega
 have⟨g2x0,g2x1,g2x2,g2x3⟩:=ce4 hc2 (w.heap.size) (y) (n) (l) (1)
 have⟨g2x4,g2x5,g2x6,g2x7⟩:=ce4 hc2 (w.heap.size+1) (0) (0) (false) (0)
 have z2x0:w2.frozen? ⟨w.heap.size,0,none⟩=false:=fro hf2
 have z2x1:w2.frozen? ⟨w.heap.size,1,none⟩=false:=fro hf2
 have z2x2:w2.frozen? ⟨w.heap.size,2,none⟩=false:=fro hf2
 have z2x3:w2.frozen? ⟨w.heap.size,3,none⟩=false:=fro hf2
 have z2x4:w2.frozen? ⟨(w.heap.size+1),0,none⟩=false:=fro hf2
 have z2x5:w2.frozen? ⟨(w.heap.size+1),1,none⟩=false:=fro hf2
 have z2x6:w2.frozen? ⟨(w.heap.size+1),2,none⟩=false:=fro hf2
 have z2x7:w2.frozen? ⟨(w.heap.size+1),3,none⟩=false:=fro hf2
 go_wp2_with fail
 refine bodyPost_ret (v:= .tuple #[.agg #[.int .i64 (y+1),.int .i64 (1),.bool (false),.int .i64 (1)],.int .i64 (0)]) (by simp [results,Tryz.results67,go_sem, *]) rfl ⟨rfl, ?_⟩
 exact bel
theorem yY(y n:Int)(l:Bool)(d:Int)(v on:Int)(ol:Bool)(u:Int)(w:World)(hT:Tab w 7 kevCells)(hL:Tab w 5 lenCells)(HC:Hid (∀w:World,Tab w 7 kevCells->Tab w 5 lenCells->Calls Tryo.prog 66 #[.agg #[.int .i64 (y),.int .i64 (n),.bool (l),.int .i64 (d)]] w fun e w'=>e= .returned (.tuple #[.int .i64 (v),.int .i64 (0)])/\Below w.heap.size w w'))(HB:Hid (∀w:World,Calls Tryo.prog 139 #[.agg #[.int .i64 (y),.int .i64 (n),.bool (l),.int .i64 (d)],.int .i64 (-1)] w fun e w'=>e= .returned (.tuple #[.agg #[.int .i64 (on),.bool (ol)],.bool true])/\Below w.heap.size w w'))(HE:Hid (∀w:World,Tab w 7 kevCells->Tab w 5 lenCells->Calls Tryo.prog 140 #[.int .i64 (y),.agg #[.int .i64 (on),.bool (ol)]] w fun e w'=>e= .returned (.tuple #[.agg #[.int .i64 (y),.int .i64 (on),.bool (ol),.int .i64 (u)],.int .i64 (0)])/\Below w.heap.size w w'))(h:d<=1):
  Calls Tryo.prog 68 #[.agg #[.int .i64 (y),.int .i64 (n),.bool (l),.int .i64 (d)]] w fun e w'=>e= .returned (.tuple #[.agg #[.int .i64 (y),.int .i64 (on),.bool (ol),.int .i64 (u)],.int .i64 (0)])/\Below w.heap.size w w':=by
 go_enter Tryo.func68,Tryz.ntmps68
 go_wp2_with fail
 refine(HC.out _ (Tab.below hT bel) (Tab.below hL bel)).mono ?_
 rintro e w1 ⟨rfl,hb1⟩
 obtain⟨hc1,hf1⟩:=aA hb1
 have hz1:=hb1.size
 try simp at hz1
 have hs1x0:w.heap.size<w1.heap.size:=by omega
 have hs1x1:(w.heap.size+1)<w1.heap.size:=by omega
 have⟨g1x0,g1x1,g1x2,g1x3⟩:=ce4 hc1 (w.heap.size) (y) (n) (l) (d)
 have⟨g1x4,g1x5,g1x6,g1x7⟩:=ce4 hc1 (w.heap.size+1) (0) (0) (false) (0)
 have z1x0:w1.frozen? ⟨w.heap.size,0,none⟩=false:=fro hf1
 have z1x1:w1.frozen? ⟨w.heap.size,1,none⟩=false:=fro hf1
 have z1x2:w1.frozen? ⟨w.heap.size,2,none⟩=false:=fro hf1
 have z1x3:w1.frozen? ⟨w.heap.size,3,none⟩=false:=fro hf1
 have z1x4:w1.frozen? ⟨(w.heap.size+1),0,none⟩=false:=fro hf1
 have z1x5:w1.frozen? ⟨(w.heap.size+1),1,none⟩=false:=fro hf1
 have z1x6:w1.frozen? ⟨(w.heap.size+1),2,none⟩=false:=fro hf1
 have z1x7:w1.frozen? ⟨(w.heap.size+1),3,none⟩=false:=fro hf1
 go_wp2_with fail
 refine(HB.out _).mono ?_
 rintro e w2 ⟨rfl,hb2⟩
 obtain⟨hc2,hf2⟩:=aA hb2
 have hz2:=hb2.size
 try simp at hz2
 have hs2x0:w.heap.size<w2.heap.size:=by omega
 have hs2x1:(w.heap.size+1)<w2.heap.size:=by omega
 have⟨g2x0,g2x1,g2x2,g2x3⟩:=ce4 hc2 (w.heap.size) (y) (n) (l) (d)
 have⟨g2x4,g2x5,g2x6,g2x7⟩:=ce4 hc2 (w.heap.size+1) (0) (0) (false) (0)
 have z2x0:w2.frozen? ⟨w.heap.size,0,none⟩=false:=fro hf2
 have z2x1:w2.frozen? ⟨w.heap.size,1,none⟩=false:=fro hf2
 have z2x2:w2.frozen? ⟨w.heap.size,2,none⟩=false:=fro hf2
 have z2x3:w2.frozen? ⟨w.heap.size,3,none⟩=false:=fro hf2
 have z2x4:w2.frozen? ⟨(w.heap.size+1),0,none⟩=false:=fro hf2
 have z2x5:w2.frozen? ⟨(w.heap.size+1),1,none⟩=false:=fro hf2
 have z2x6:w2.frozen? ⟨(w.heap.size+1),2,none⟩=false:=fro hf2
 have z2x7:w2.frozen? ⟨(w.heap.size+1),3,none⟩=false:=fro hf2
 go_wp2_with fail
 refine(HE.out _ (Tab.below hT bel) (Tab.below hL bel)).mono ?_
 rintro e w3 ⟨rfl,hb3⟩
 obtain⟨hc3,hf3⟩:=aA hb3
 have hz3:=hb3.size
 try simp at hz3
 have hs3x0:(w.heap.size+1)<w3.heap.size:=by omega
 have⟨g3x0,g3x1,g3x2,g3x3⟩:=ce4 hc3 (w.heap.size+1) (0) (0) (false) (0)
 go_wp2_with fail
 refine bodyPost_ret (v:= .tuple #[.agg #[.int .i64 (y),.int .i64 (on),.bool (ol),.int .i64 (u)],.int .i64 (0)]) (by simp [results,Tryz.results68,go_sem, *]) rfl ⟨rfl, ?_⟩
 exact bel
theorem zw(n:Int)(l:Bool)(d:Int)(v on:Int)(ol:Bool)(w:World)(hT:Tab w 7 kevCells)(hL:Tab w 5 lenCells)(HC:Hid (∀w:World,Tab w 7 kevCells->Tab w 5 lenCells->Calls Tryo.prog 66 #[.agg #[.int .i64 1,.int .i64 (n),.bool (l),.int .i64 (d)]] w fun e w'=>e= .returned (.tuple #[.int .i64 (v),.int .i64 (0)])/\Below w.heap.size w w'))(HB:Hid (∀w:World,Calls Tryo.prog 139 #[.agg #[.int .i64 1,.int .i64 (n),.bool (l),.int .i64 (d)],.int .i64 (-1)] w fun e w'=>e= .returned (.tuple #[.agg #[.int .i64 (on),.bool (ol)],.bool false])/\Below w.heap.size w w'))(h:d<=1):
  Calls Tryo.prog 68 #[.agg #[.int .i64 (1),.int .i64 (n),.bool (l),.int .i64 (d)]] w fun e w'=>e= .returned (.tuple #[.agg #[.int .i64 (0),.int .i64 (0),.bool (false),.int .i64 (0)],.int .i64 (2)])/\Below w.heap.size w w':=by
 go_enter Tryo.func68,Tryz.ntmps68
 go_wp2_with fail
 refine(HC.out _ (Tab.below hT bel) (Tab.below hL bel)).mono ?_
 rintro e w1 ⟨rfl,hb1⟩
 obtain⟨hc1,hf1⟩:=aA hb1
 have hz1:=hb1.size
 try simp at hz1
 have hs1x0:w.heap.size<w1.heap.size:=by omega
 have hs1x1:(w.heap.size+1)<w1.heap.size:=by omega
 have⟨g1x0,g1x1,g1x2,g1x3⟩:=ce4 hc1 (w.heap.size) 1 (n) (l) (d)
 have⟨g1x4,g1x5,g1x6,g1x7⟩:=ce4 hc1 (w.heap.size+1) (0) (0) (false) (0)
 have z1x0:w1.frozen? ⟨w.heap.size,0,none⟩=false:=fro hf1
 have z1x1:w1.frozen? ⟨w.heap.size,1,none⟩=false:=fro hf1
 have z1x2:w1.frozen? ⟨w.heap.size,2,none⟩=false:=fro hf1
 have z1x3:w1.frozen? ⟨w.heap.size,3,none⟩=false:=fro hf1
 have z1x4:w1.frozen? ⟨(w.heap.size+1),0,none⟩=false:=fro hf1
 have z1x5:w1.frozen? ⟨(w.heap.size+1),1,none⟩=false:=fro hf1
 have z1x6:w1.frozen? ⟨(w.heap.size+1),2,none⟩=false:=fro hf1
 have z1x7:w1.frozen? ⟨(w.heap.size+1),3,none⟩=false:=fro hf1
 go_wp2_with fail
 refine(HB.out _).mono ?_
 rintro e w2 ⟨rfl,hb2⟩
 obtain⟨hc2,hf2⟩:=aA hb2
 have hz2:=hb2.size
 try simp at hz2
 have hs2x0:w.heap.size<w2.heap.size:=by omega
 have hs2x1:(w.heap.size+1)<w2.heap.size:=by omega
 have⟨g2x0,g2x1,g2x2,g2x3⟩:=ce4 hc2 (w.heap.size) 1 (n) (l) (d)
 have⟨g2x4,g2x5,g2x6,g2x7⟩:=ce4 hc2 (w.heap.size+1) (0) (0) (false) (0)
 have z2x0:w2.frozen? ⟨w.heap.size,0,none⟩=false:=fro hf2
 have z2x1:w2.frozen? ⟨w.heap.size,1,none⟩=false:=fro hf2
 have z2x2:w2.frozen? ⟨w.heap.size,2,none⟩=false:=fro hf2
 have z2x3:w2.frozen? ⟨w.heap.size,3,none⟩=false:=fro hf2
 have z2x4:w2.frozen? ⟨(w.heap.size+1),0,none⟩=false:=fro hf2
 have z2x5:w2.frozen? ⟨(w.heap.size+1),1,none⟩=false:=fro hf2
 have z2x6:w2.frozen? ⟨(w.heap.size+1),2,none⟩=false:=fro hf2
 have z2x7:w2.frozen? ⟨(w.heap.size+1),3,none⟩=false:=fro hf2
 go_wp2_with fail
 refine bodyPost_ret (v:= .tuple #[.agg #[.int .i64 (0),.int .i64 (0),.bool (false),.int .i64 (0)],.int .i64 (2)]) (by simp [results,Tryz.results68,go_sem, *]) rfl ⟨rfl, ?_⟩
 exact bel
theorem zS(y n:Int)(l:Bool)(d:Int)(v on:Int)(ol:Bool)(u:Int)(w:World)(hT:Tab w 7 kevCells)(hL:Tab w 5 lenCells)(HC:Hid (∀w:World,Tab w 7 kevCells->Tab w 5 lenCells->Calls Tryo.prog 66 #[.agg #[.int .i64 (y),.int .i64 (n),.bool (l),.int .i64 (d)]] w fun e w'=>e= .returned (.tuple #[.int .i64 (v),.int .i64 (0)])/\Below w.heap.size w w'))(HB:Hid (∀w:World,Calls Tryo.prog 139 #[.agg #[.int .i64 (y),.int .i64 (n),.bool (l),.int .i64 (d)],.int .i64 (-1)] w fun e w'=>e= .returned (.tuple #[.agg #[.int .i64 (on),.bool (ol)],.bool false])/\Below w.heap.size w w'))(HE:Hid (∀w:World,Tab w 7 kevCells->Tab w 5 lenCells->Calls Tryo.prog 140 #[.int .i64 (y-1),.agg #[.int .i64 (12),.bool (false)]] w fun e w'=>e= .returned (.tuple #[.agg #[.int .i64 (y-1),.int .i64 (12),.bool (false),.int .i64 (u)],.int .i64 (0)])/\Below w.heap.size w w'))(h:d<=1)(y1:1<y)(y2:y<=9999):
  Calls Tryo.prog 68 #[.agg #[.int .i64 (y),.int .i64 (n),.bool (l),.int .i64 (d)]] w fun e w'=>e= .returned (.tuple #[.agg #[.int .i64 (y-1),.int .i64 (12),.bool (false),.int .i64 (u)],.int .i64 (0)])/\Below w.heap.size w w':=by
 go_enter Tryo.func68,Tryz.ntmps68
 go_wp2_with fail
 refine(HC.out _ (Tab.below hT bel) (Tab.below hL bel)).mono ?_
 rintro e w1 ⟨rfl,hb1⟩
 obtain⟨hc1,hf1⟩:=aA hb1
 have hz1:=hb1.size
 try simp at hz1
 have hs1x0:w.heap.size<w1.heap.size:=by omega
 have hs1x1:(w.heap.size+1)<w1.heap.size:=by omega
 have⟨g1x0,g1x1,g1x2,g1x3⟩:=ce4 hc1 (w.heap.size) (y) (n) (l) (d)
 have⟨g1x4,g1x5,g1x6,g1x7⟩:=ce4 hc1 (w.heap.size+1) (0) (0) (false) (0)
 have z1x0:w1.frozen? ⟨w.heap.size,0,none⟩=false:=fro hf1
 have z1x1:w1.frozen? ⟨w.heap.size,1,none⟩=false:=fro hf1
 have z1x2:w1.frozen? ⟨w.heap.size,2,none⟩=false:=fro hf1
 have z1x3:w1.frozen? ⟨w.heap.size,3,none⟩=false:=fro hf1
 have z1x4:w1.frozen? ⟨(w.heap.size+1),0,none⟩=false:=fro hf1
 have z1x5:w1.frozen? ⟨(w.heap.size+1),1,none⟩=false:=fro hf1
 have z1x6:w1.frozen? ⟨(w.heap.size+1),2,none⟩=false:=fro hf1
 have z1x7:w1.frozen? ⟨(w.heap.size+1),3,none⟩=false:=fro hf1
 go_wp2_with fail
 refine(HB.out _).mono ?_
 rintro e w2 ⟨rfl,hb2⟩
 obtain⟨hc2,hf2⟩:=aA hb2
 have hz2:=hb2.size
 try simp at hz2
 have hs2x0:w.heap.size<w2.heap.size:=by omega
 have hs2x1:(w.heap.size+1)<w2.heap.size:=by omega
 have⟨g2x0,g2x1,g2x2,g2x3⟩:=ce4 hc2 (w.heap.size) (y) (n) (l) (d)
 have⟨g2x4,g2x5,g2x6,g2x7⟩:=ce4 hc2 (w.heap.size+1) (0) (0) (false) (0)
 have z2x0:w2.frozen? ⟨w.heap.size,0,none⟩=false:=fro hf2
 have z2x1:w2.frozen? ⟨w.heap.size,1,none⟩=false:=fro hf2
 have z2x2:w2.frozen? ⟨w.heap.size,2,none⟩=false:=fro hf2
 have z2x3:w2.frozen? ⟨w.heap.size,3,none⟩=false:=fro hf2
 have z2x4:w2.frozen? ⟨(w.heap.size+1),0,none⟩=false:=fro hf2
 have z2x5:w2.frozen? ⟨(w.heap.size+1),1,none⟩=false:=fro hf2
 have z2x6:w2.frozen? ⟨(w.heap.size+1),2,none⟩=false:=fro hf2
 have z2x7:w2.frozen? ⟨(w.heap.size+1),3,none⟩=false:=fro hf2
 go_wp2_with fail
 refine(HE.out _ (Tab.below hT bel) (Tab.below hL bel)).mono ?_
 rintro e w3 ⟨rfl,hb3⟩
 obtain⟨hc3,hf3⟩:=aA hb3
 have hz3:=hb3.size
 try simp at hz3
 have hs3x0:(w.heap.size+1)<w3.heap.size:=by omega
 have⟨g3x0,g3x1,g3x2,g3x3⟩:=ce4 hc3 (w.heap.size+1) (0) (0) (false) (0)
 go_wp2_with fail
 refine bodyPost_ret (v:= .tuple #[.agg #[.int .i64 (y-1),.int .i64 (12),.bool (false),.int .i64 (u)],.int .i64 (0)]) (by simp [results,Tryz.results68,go_sem, *]) rfl ⟨rfl, ?_⟩
 exact bel
theorem Du(y n:Int)(l:Bool)(d:Int)(w:World)(hy:I64 y)(hT:Tab w 7 kevCells)(hL:Tab w 5 lenCells)(ry rn:Int)(rl:Bool)(rd er:Int)(hI:D27.Ns y n l d ry rn rl rd er):
  Calls Tryo.prog 67 #[.agg #[.int .i64 (y),.int .i64 (n),.bool (l),.int .i64 (d)]] w fun e w'=>e= .returned (.tuple #[.agg #[.int .i64 (ry),.int .i64 (rn),.bool (rl),.int .i64 (rd)],.int .i64 (er)])/\Below w.heap.size w w':=by
 have HC:=Lib.hid (fun w hT hL=>qh y n l d w hy hT hL)
 by_cases c:D10.aB y n l d=0
 ·obtain⟨⟨y1,y2,m1,m2,d1,d2⟩,hp⟩:=D10.bG c
  obtain⟨hv,hday,hn,hl⟩:=D10.j4 c
  have hlb:=D10.jQ y _ y1 y2 m1 m2
  have hlv:D10.aZ y n l=D10.dLen y (Cal.plV (Cal.leap y) n l):=by simp [D10.aZ,Cal.dD y y1 y2,hp]
  rw [c,if_pos rfl,hlv]at HC
  have HBs:=fun w=>zD y n l d 1 w c ⟨by omega,by omega⟩ 1
  have key:∀{y' n':Int} {l':Bool} {d':Int},D10.aB y' n' l' d'=0->D10.aF y' n' l' d'=D10.aF y n l d+1->y'=ry/\n'=rn/\l'=rl/\d'=rd/\er=0:=by
   intro y' n' l' d' a b
   rcases hI with ⟨h,_⟩|⟨_,h,_⟩|⟨_,h0,h1,h2⟩
   ·exact absurd c h
   ·obtain⟨_,_,b2⟩:=D10.iy _ _ _ _ a
    omega
   ·obtain⟨e1,e2,e3,e4⟩:=D10.D9 a h1 (b.trans h2.symm)
    exact⟨e1,e2,e3,e4,h0⟩
  by_cases c1:d<D10.dLen y (Cal.plV (Cal.leap y) n l)
  ·obtain⟨a,b⟩:=D27.ug (d:=d+1) ⟨y1,y2,m1,m2,by omega,by omega⟩ hn hl
   obtain⟨rfl,rfl,rfl,rfl,rfl⟩:=key a (by rw [b,hday];unfold D10.bn;omega)
   exact CZ _ _ _ _ _ w hT hL HC ⟨by omega,by omega⟩ c1
  ·have hdl:d=D10.dLen y (Cal.plV (Cal.leap y) n l):=by omega
   by_cases c2:Cal.plV (Cal.leap y) n l+1<=Cal.most (Cal.leap y)
   ·have ho:Cal.jZ (Cal.leap y) (Cal.plV (Cal.leap y) n l+1)=true:=by rw [D27.P6];simp;omega
    rw [ho]at HBs
    have hlb2:=D10.jQ y (Cal.plV (Cal.leap y) n l+1) y1 y2 (by omega) c2
    obtain⟨a,b⟩:=D27.ug (y:=y) (m:=Cal.plV (Cal.leap y) n l+1) (d:=1) ⟨y1,y2,by omega,c2,by omega,by omega⟩ rfl rfl
    obtain⟨e1,e2,e3,e4,rfl⟩:=key a (by rw [b,hday,D27.D5 y1 y2 m1 c2,←hdl])
    rw [←e1,←e2,←e3,←e4]
    exact AA y n l d _ _ _ w hT hL HC (Lib.hid HBs) (by omega)
   ·have hmm:Cal.plV (Cal.leap y) n l=Cal.most (Cal.leap y):=by omega
    have ho:Cal.jZ (Cal.leap y) (Cal.plV (Cal.leap y) n l+1)=false:=by rw [D27.P6,decide_eq_false c2];simp
    rw [ho]at HBs
    by_cases c3:y=9999
    ·subst c3
     have hd9:D10.aF 9999 n l d=2278650:=by rw [hday,hdl,hmm];exact D27.NN
     rcases hI with ⟨h,_⟩|⟨_,_,rfl,rfl,rfl,rfl,rfl⟩|⟨_,_,h1,h2⟩
     ·exact absurd c h
     ·exact Cc n l d _ _ _ w hT hL HC (Lib.hid HBs) (by omega)
     ·obtain⟨_,_,b2⟩:=D10.iy _ _ _ _ h1
      omega
    ·have hlb2:=D10.jQ (y+1) 1 (by omega) (by omega) (by omega) (D10.mO _)
     obtain⟨a,b⟩:=D27.ug (y:=y+1) (m:=1) (d:=1) ⟨by omega,by omega,by omega,D10.mO _,by omega,by omega⟩ (S15.Ey _).1 (S15.Ey _).2
     obtain⟨e1,e2,e3,e4,rfl⟩:=key a (by rw [b,hday,D27.D8 y1 (by omega),hdl,hmm])
     rw [←e1,←e2,←e3,←e4]
     exact BN y n l d _ _ _ w hT hL HC (Lib.hid HBs) (by omega) y1 (by omega)
 ·rw [if_neg c]at HC
  rcases hI with ⟨_,rfl,rfl,rfl,rfl,rfl⟩|⟨h,_⟩|⟨h,_⟩
  ·exact DL y n l d _ _ w hT hL HC (by simpa using c)
  ·exact absurd h c
  ·exact absurd h c
theorem AZ(y n:Int)(l:Bool)(d:Int)(w:World)(hy:I64 y)(hT:Tab w 7 kevCells)(hL:Tab w 5 lenCells)(ry rn:Int)(rl:Bool)(rd er:Int)(hI:D27.IX y n l d ry rn rl rd er):
  Calls Tryo.prog 68 #[.agg #[.int .i64 (y),.int .i64 (n),.bool (l),.int .i64 (d)]] w fun e w'=>e= .returned (.tuple #[.agg #[.int .i64 (ry),.int .i64 (rn),.bool (rl),.int .i64 (rd)],.int .i64 (er)])/\Below w.heap.size w w':=by
 have HC:=Lib.hid (fun w hT hL=>qh y n l d w hy hT hL)
 by_cases c:D10.aB y n l d=0
 ·obtain⟨⟨y1,y2,m1,m2,d1,d2⟩,hp⟩:=D10.bG c
  obtain⟨hv,hday,hn,hl⟩:=D10.j4 c
  have hlb:=D10.jQ y _ y1 y2 m1 m2
  rw [c,if_pos rfl]at HC
  have HBs:=fun w=>zD y n l d (-1) w c ⟨by omega,by omega⟩ d
  have key:∀{y' n':Int} {l':Bool} {d':Int},D10.aB y' n' l' d'=0->D10.aF y' n' l' d'=D10.aF y n l d-1->y'=ry/\n'=rn/\l'=rl/\d'=rd/\er=0:=by
   intro y' n' l' d' a b
   rcases hI with ⟨h,_⟩|⟨_,h,_⟩|⟨_,h0,h1,h2⟩
   ·exact absurd c h
   ·obtain⟨_,b1,_⟩:=D10.iy _ _ _ _ a
    omega
   ·obtain⟨e1,e2,e3,e4⟩:=D10.D9 a h1 (b.trans h2.symm)
    exact⟨e1,e2,e3,e4,h0⟩
  by_cases c1:1<d
  ·obtain⟨a,b⟩:=D27.ug (d:=d-1) ⟨y1,y2,m1,m2,by omega,by omega⟩ hn hl
   obtain⟨rfl,rfl,rfl,rfl,rfl⟩:=key a (by rw [b,hday];unfold D10.bn;omega)
   exact BX _ _ _ _ _ w hT hL HC ⟨by omega,by omega⟩ c1
  ·have hd1:d=1:=by omega
   by_cases c2:2<=Cal.plV (Cal.leap y) n l
   ·have ho:Cal.jZ (Cal.leap y) (Cal.plV (Cal.leap y) n l+ -1)=true:=by rw [D27.P6];simp;omega
    rw [ho]at HBs
    have hlb2:=D10.jQ y (Cal.plV (Cal.leap y) n l+ -1) y1 y2 (by omega) (by omega)
    obtain⟨a,b⟩:=D27.ug (y:=y) (m:=Cal.plV (Cal.leap y) n l+ -1) (d:=D10.dLen y (Cal.plV (Cal.leap y) n l+ -1)) ⟨y1,y2,by omega,by omega,by omega,by omega⟩ rfl rfl
    have hnx:=D27.D5 (m:=Cal.plV (Cal.leap y) n l+ -1) y1 y2 (by omega) (by omega)
    rw [show Cal.plV (Cal.leap y) n l+ -1+1=Cal.plV (Cal.leap y) n l by omega]at hnx
    obtain⟨e1,e2,e3,e4,rfl⟩:=key a (by rw [b,hday,hd1,hnx];omega)
    rw [←e1,←e2,←e3,←e4]
    have HLs:=fun w hT hL=>dN y (Cal.ofN (Cal.leap y) (Cal.plV (Cal.leap y) n l+ -1)) (Cal.ofL (Cal.leap y) (Cal.plV (Cal.leap y) n l+ -1)) w hy hT hL
    obtain⟨_,o1,o2⟩:=D10.p8 (Cal.leap y) (Cal.plV (Cal.leap y) n l+ -1) (by omega) (by omega)
    have q1:=S15.Ai y1 y2 o1
    obtain⟨_,_,_,q2,_⟩:=D10.sI q1
    rw [q1,q2,o2]at HLs
    exact yY y n l d _ _ _ _ w hT hL HC (Lib.hid HBs) (Lib.hid fun w hT hL=>Ho y _ _ _ w hT hL (Lib.hid HLs)) (by omega)
   ·have hm1:Cal.plV (Cal.leap y) n l=1:=by omega
    have ho:Cal.jZ (Cal.leap y) (Cal.plV (Cal.leap y) n l+ -1)=false:=by rw [D27.P6,hm1];rfl
    rw [ho]at HBs
    by_cases c3:y=1
    ·subst c3
     have hd9:D10.aF 1 n l d= -1373427:=by rw [hday,hd1,hm1];exact D27.KG
     rcases hI with ⟨h,_⟩|⟨_,_,rfl,rfl,rfl,rfl,rfl⟩|⟨_,_,h1,h2⟩
     ·exact absurd c h
     ·exact zw n l d _ _ _ w hT hL HC (Lib.hid HBs) (by omega)
     ·obtain⟨_,b1,_⟩:=D10.iy _ _ _ _ h1
      omega
    ·have hlb2:=D10.jQ (y-1) _ (by omega) (by omega) (D10.mO (y-1)) (Int.le_refl _)
     obtain⟨a,b⟩:=D27.ug (y:=y-1) (m:=Cal.most (Cal.leap (y-1))) (d:=D10.dLen (y-1) (Cal.most (Cal.leap (y-1)))) ⟨by omega,by omega,D10.mO _,Int.le_refl _,by omega,by omega⟩ (S15.E9 _) (D27.Nb _)
     have hyr:=D27.D8 (y:=y-1) (by omega) (by omega)
     rw [show y-1+1=y by omega]at hyr
     obtain⟨e1,e2,e3,e4,rfl⟩:=key a (by rw [b,hday,hd1,hm1,hyr];omega)
     rw [←e1,←e2,←e3,←e4]
     have HLs:=fun w hT hL=>dN (y-1) 12 false w ⟨by omega,by omega⟩ hT hL
     obtain⟨_,o1,o2⟩:=D10.p8 (Cal.leap (y-1)) (Cal.most (Cal.leap (y-1))) (D10.mO _) (Int.le_refl _)
     rw [S15.E9,D27.Nb]at o1 o2
     have q1:=S15.Ai (y:=y-1) (by omega) (by omega) o1
     obtain⟨_,_,_,q2,_⟩:=D10.sI q1
     rw [q1,q2,o2]at HLs
     exact zS y n l d _ _ _ _ w hT hL HC (Lib.hid HBs) (Lib.hid fun w hT hL=>Ho (y-1) _ _ _ w hT hL (Lib.hid HLs)) (by omega) (by omega) y2
 ·rw [if_neg c]at HC
  rcases hI with ⟨_,rfl,rfl,rfl,rfl,rfl⟩|⟨h,_⟩|⟨h,_⟩
  ·exact Cj y n l d _ _ w hT hL HC (by simpa using c)
  ·exact absurd h c
  ·exact absurd h c
end
section
open Go.ChangeShapes Go.WideShapes Go.ChangeAt Go.RowKit
end
section
open Go.ChangeShapes Go.WideShapes Go.ChangeAt Go.RowKit
namespace D27
end D27
end
section
open Go.RowKit
variable {P:Program} {n:Nat}
structure Upper(B:Nat)(W W':World):Prop where
 size:W.heap.size<=W'.heap.size
 same:∀j,B<=j->j<W.heap.size->W'.heap[j]? =W.heap[j]?
theorem Upper.refl(B:Nat)(W:World):Upper B W W:=⟨Nat.le_refl _,fun _ _ _=>rfl⟩
theorem Upper.trans{B:Nat}{X Y Z:World}(h:Upper B X Y)(k:Upper B Y Z):Upper B X Z:=⟨Nat.le_trans h.size k.size,fun j h1 h2=>(k.same j h1 (by have:=h.size;omega)).trans (h.same j h1 h2)⟩
theorem Upper.alloc{B:Nat}{X Y:World}(h:Upper B X Y)(o:Obj):Upper B X (Y.alloc o):=h.trans ⟨by simp,fun j _ hj=>Below.heap_alloc Y o j hj⟩
theorem Upper.setCell{B:Nat}{X Y:World}(h:Upper B X Y){p:Addr}(hp:p.block<B)(u:Value):Upper B X (Y.setCell p u):=
 h.trans ⟨by show Y.heap.size<=(Y.heap.modify _ _).size;rw [Array.size_modify];exact Nat.le_refl _,fun j h1 _=>Below.heap_setCell Y p u j (by omega)⟩
theorem Upper.drew{B:Nat}{X Y:World}(h:Upper B X Y):Upper B X Y.drew:=⟨h.size,h.same⟩
structure Ny(B:Nat)(X Y:World):Prop where
 size:Y.heap.size=X.heap.size
 below:Below B X Y
 cell:∀p,Y.cell? p=X.cell? p
 frozen:∀p,Y.frozen? p=X.frozen? p
theorem kH{B l:Nat}{X:World}{r r':Loop}(hB:B<=l)(h:X.heap[l]? =some (.loop r)):Ny B X (X.putObj l (.loop r')):=by
 have hlt:=(Array.getElem?_eq_some_iff.1 h).1
 refine⟨by simp [World.putObj],⟨rfl,rfl,rfl,by simp [World.putObj],fun k hk=>World.putObj_heap_other (by omega)⟩,fun p=> ?_,fun p=> ?_⟩
 ·unfold World.cell?
  by_cases e:p.block=l
  ·rw [e,World.putObj_heap_same hlt,h]
  ·rw [World.putObj_heap_other e]
 ·unfold World.frozen?
  by_cases e:p.block=l
  ·rw [e,World.putObj_heap_same hlt,h]
  ·rw [World.putObj_heap_other e]
def RN(B:Nat)(G:Prop)(Jb:Code->World->Prop)(W:World):Exit->Act->World->Prop
 | .normal,_,W'=>G/\Below W.heap.size W W'
 | .ret,_,W'=>Upper B W W'/\Jb .ret W'
 | .exit id,_,W'=>Upper B W W'/\Jb (.exit id) W'
 |_,_,_=>False
theorem nU{g:Operand}{ps:Array Tmp}{assign body:Code}{Q:Exit->Act->World->Prop}{a:Act}{w:World}{gf:Nat}{lb:Array Value}
  (hg:a.eval g= .func (.func gf) #[] lb) (eg:∀args w,(callFunc gf args).run P w= .ok (.enter gf args) w) (encs:Nat->Array Value) (N:Nat) (hps:∀k,(encs k).size=ps.size)
  (G:Nat->Prop) (Jb:Nat->Code->World->Prop) (hJ:∀k c X Y,Ny w.heap.size X Y->Jb k c X->Jb k c Y)
  (hit:∀ (l:Nat) (W0:World) (Jx:Nat->World->Prop),Below w.heap.size w W0->
   (∀k W1,k<=N->Below W0.heap.size W0 W1->YieldAt Fence.wide (n-1-1) P l (encs k) W1 fun e W'=>(e= .returned (.bool true)/\G k/\Below W1.heap.size W1 W')∨(e= .returned (.bool false)/\Jx k W'))->
   CallsIn Fence.wide (n-1) P gf (#[.func (.yield l) #[] #[]]++lb) W0 fun e W'=>(∃v,e= .returned v)/\(((∀k,k<=N->G k)/\Below W0.heap.size W0 W')∨∃k,k<=N/\(∀j,j<k->G j)/\Jx k W'))
  (hround:∀ (l k:Nat) (W:World),k<=N->Below w.heap.size w W->l<W.heap.size->assign.wpIn (Fence.wide.inRound l) (n-1-1) P
   (Exit.then (fun a₁ W₁=>Below W.heap.size W W₁/\∀W₂,Ny w.heap.size W₁ W₂->body.wpIn (Fence.wide.inRound l) (n-1-1) P (RN w.heap.size (G k) (Jb k) W₂) a₁ W₂) (fun _ _ _=>False))
   {tmps:=(ps.zip (encs k)).foldl (fun t (p,v)=>t.setIfInBounds p v) a.tmps,defers:= []} W)
  (hdone:∀W,Below w.heap.size w W->(∀k,k<=N->G k)->W.heap[w.heap.size]? =some (.deferred (some []))->Q .normal {a with defers:={target:= .collected w.heap.size,args:= #[]} :: a.defers} W)
  (hstop:∀k c W,k<=N->(∀j,j<k->G j)->Jb k c W->W.heap[w.heap.size]? =some (.deferred (some []))->c.wpIn Fence.wide n P Q {a with defers:={target:= .collected w.heap.size,args:= #[]} :: a.defers} W):
  (Code.rangeFunc g ps assign body).wpIn Fence.wide n P Q a w:=by
 refine wpIn_rangeFunc fun fn _=> ?_
 obtain⟨rec,hrec⟩:∃rec:LoopState->Option Code->Loop,rec=fun st pe=>{state:=st,pending:=pe,fn,tmps:=a.tmps,params:=ps,assign,body,defers:=w.heap.size}:=⟨_,rfl⟩
 obtain⟨W0,hW0⟩:∃W0,(w.alloc (.deferred (some []))).alloc (.loop (rec .ready none))=W0:=⟨_,rfl⟩
 have hsz:W0.heap.size=w.heap.size+2:=by rw [←hW0];simp
 have hL0:W0.heap[w.heap.size+1]? =some (.loop (rec .ready none)):=by
  rw [←hW0];have:=World.alloc_heap_new (w.alloc (.deferred (some []))) (.loop (rec .ready none));rwa [World.size_alloc]at this
 have hD0:W0.heap[w.heap.size]? =some (.deferred (some [])):=by
  rw [←hW0];exact(Below.heap_alloc _ _ _ (by simp)).trans (World.alloc_heap_new w _)
 have hB0:Below w.heap.size w W0:=by rw [←hW0];exact((Below.refl _ w).alloc (Nat.le_refl _) _).alloc (by simp) _
 refine⟨w.heap.size+1,[{target:= .collected w.heap.size,args:= #[]}],W0,{target:= .fn (.func gf) lb,args:= #[.func (.yield (w.heap.size+1)) #[] #[]]},W0,gf,#[.func (.yield (w.heap.size+1)) #[] #[]]++lb,W0, ?_, ?_, ?_, ?_, ?_, ?_⟩
 ·rw [←hW0,hrec];exact run_enterLoop_outer _ _ _ _ _
 ·simp only [resolve,hg]
  simp [go_sem]
 ·intro f' _;trivial
 ·simp [invoke,go_sem,eg]
 ·intro h;cases h
 ·refine(hit (w.heap.size+1) W0 (fun k W=>∃c,Jb k c W/\W.heap[w.heap.size+1]? =some (.loop (rec .done (some c)))/\W.heap[w.heap.size]? =some (.deferred (some []))) hB0 (fun k W1 hk hB1=> ?_)).mono ?_
  ·have hl:W1.heap[w.heap.size+1]? =some (.loop (rec .ready none)):=(hB1.block _ (by omega)).trans hL0
   have hd:W1.heap[w.heap.size]? =some (.deferred (some [])):=(hB1.block _ (by omega)).trans hD0
   have hlt:=(Array.getElem?_eq_some_iff.1 hl).1
   have hw1:Below w.heap.size w W1:=hB0.trans (hB1.mono (by omega))
   have hy:=run_yield (P:=P) (args:=encs k) hl (by rw [hrec];exact hps k)
   rw [hrec]at hy
   refine⟨fn,_,assign,body,hy,roundIn_of_wpIn trivial (wpIn_mono (hround (w.heap.size+1) k W1 hk hw1 hlt) ?_)⟩
   intro e a₁ Wa hp
   cases e with
   | normal=>
    obtain⟨hba,hbd⟩:=hp
    have hla:Wa.heap[w.heap.size+1]? =some (.loop (rec .ready none)):=(hba.block _ hlt).trans hl
    have hda:Wa.heap[w.heap.size]? =some (.deferred (some [])):=(hba.block _ (by omega)).trans hd
    have hlta:=(Array.getElem?_eq_some_iff.1 hla).1
    refine⟨_,run_beginRound hla (by rw [hrec]), ?_⟩
    have hlb:(Wa.putObj (w.heap.size+1) (.loop {rec .ready none with state:= .busy})).heap[w.heap.size+1]? =some (.loop {rec .ready none with state:= .busy}):=World.putObj_heap_same hlta
    have hdb:(Wa.putObj (w.heap.size+1) (.loop {rec .ready none with state:= .busy})).heap[w.heap.size]? =some (.deferred (some [])):=(World.putObj_heap_other (by omega)).trans hda
    have hsb:(Wa.putObj (w.heap.size+1) (.loop {rec .ready none with state:= .busy})).heap.size=Wa.heap.size:=by simp [World.putObj]
    have hob:∀j,j≠w.heap.size+1->(Wa.putObj (w.heap.size+1) (.loop {rec .ready none with state:= .busy})).heap[j]? =Wa.heap[j]? :=fun j hj=>World.putObj_heap_other hj
    refine wpIn_mono (hbd _ (kH (by omega) hla)) ?_
    have hos:∀Wb,Wb=Wa.putObj (w.heap.size+1) (.loop {rec .ready none with state:= .busy})->Wb.os=Wa.os/\Wb.tape=Wa.tape/\Wb.output=Wa.output:=fun Wb h=>by subst h;exact⟨rfl,rfl,rfl⟩
    generalize hWb:Wa.putObj (w.heap.size+1) (.loop {rec .ready none with state:= .busy})=Wb at*
    obtain⟨o1,o2,o3⟩:=hos Wb rfl
    have leave:∀ (c:Code) (W3:World),Upper w.heap.size Wb W3->Jb k c W3->∃v w',(Instr.endRound (w.heap.size+1) (some c)).run P W3= .ok v w'/\
      (((Ending.returned v= .returned (.bool true))/\G k/\Below W1.heap.size W1 w')∨(Ending.returned v= .returned (.bool false)/\∃c,Jb k c w'/\w'.heap[w.heap.size+1]? =some (.loop (rec .done (some c)))/\w'.heap[w.heap.size]? =some (.deferred (some [])))):=fun c W3 hu hj=>by
     have hl3:W3.heap[w.heap.size+1]? =some (.loop {rec .ready none with state:= .busy}):=(hu.same _ (by omega) (by omega)).trans hlb
     have hd3:W3.heap[w.heap.size]? =some (.deferred (some [])):=(hu.same _ (Nat.le_refl _) (by omega)).trans hdb
     have hlt3:=(Array.getElem?_eq_some_iff.1 hl3).1
     have hr:=run_endRound (P:=P) (some c) hl3
     refine⟨_,_,hr,.inr ⟨rfl,c,hJ k c _ _ (kH (by omega) hl3) hj, ?_,(World.putObj_heap_other (by omega)).trans hd3⟩⟩
     rw [World.putObj_heap_same hlt3,hrec]
     rfl
    rintro e a3 W3 hp3
    cases e with
    | normal=>
     obtain⟨hG,hb3⟩:=hp3
     have hl3:W3.heap[w.heap.size+1]? =some (.loop {rec .ready none with state:= .busy}):=(hb3.block _ (by omega)).trans hlb
     have hlt3:=(Array.getElem?_eq_some_iff.1 hl3).1
     have hr:=run_endRound (P:=P) none hl3
     refine⟨_,_,hr,.inl ⟨rfl,hG, ?_⟩⟩
     have hba1:=hba.size
     have hb31:=hb3.size
     refine⟨hb3.os.trans (o1.trans hba.os),hb3.tape.trans (o2.trans hba.tape),hb3.output.trans (o3.trans hba.output),by simp [World.putObj];omega,fun j hj=> ?_⟩
     by_cases e:j=w.heap.size+1
     ·subst e
      rw [World.putObj_heap_same hlt3,hl,hrec]
      rfl
     ·rw [World.putObj_heap_other e,hb3.block j (by omega),hob j e,hba.block j hj]
    |ret=>exact leave .ret W3 hp3.1 hp3.2
    |exit id=>exact leave (.exit id) W3 hp3.1 hp3.2
    |goto t=>exact hp3.elim
    |panic ch=>exact hp3.elim
    |outgrown=>exact hp3.elim
   |ret=>exact hp.elim
   |exit id=>exact hp.elim
   |goto t=>exact hp.elim
   |panic ch=>exact hp.elim
   |outgrown=>exact hp.elim
  ·rintro e W2 ⟨⟨v,rfl⟩,(⟨hG,hB⟩|⟨k,hk,hG,c,hj,hl,hd⟩)⟩
   ·have hl:W2.heap[w.heap.size+1]? =some (.loop (rec .ready none)):=(hB.block _ (by omega)).trans hL0
    have hd:W2.heap[w.heap.size]? =some (.deferred (some [])):=(hB.block _ (by omega)).trans hD0
    refine⟨none,_,by have:=run_endLoop (P:=P) hl (by rw [hrec];simp);rw [hrec]at this;exact this,hdone _ ?_ hG ((World.putObj_heap_other (by omega)).trans hd)⟩
    exact(hB0.trans (hB.mono (by omega))).trans (kH (r':={rec .ready none with state:= .exhausted}) (by omega) hl).below |> fun h=>by rw [hrec]at h;exact h
   ·exact⟨some c,_,by have:=run_endLoop (P:=P) hl (by rw [hrec];simp);rw [hrec]at this;exact this,hstop k c _ hk hG (hJ k c _ _ (by have:=kH (B:=w.heap.size) (r':={rec .done (some c)with state:= .exhausted}) (by omega) hl;rw [hrec]at this;exact this) hj) ((World.putObj_heap_other (by omega)).trans hd)⟩
end
section
open Go.ChangeShapes Go.WideShapes Go.ChangeAt Go.RowKit
attribute [local go_sem] Oper.semAt_some
abbrev Dt:=Int×Int×Bool×Int
theorem Cg(n:Nat)(s:Nat->Dt)(er:Int)(N:Nat)(hN:N<=4000000)(l Bd Bs:Nat)(w W0:World)(hT:Tab w 7 kevCells)(hL:Tab w 5 lenCells)(G:Nat->Prop)(Jx:Nat->World->Prop)
  (HS:Hid (∀k,k<N->∀W:World,Tab W 7 kevCells->Tab W 5 lenCells->Calls Tryo.prog 67 #[.agg #[.int .i64 (s k).1,.int .i64 (s k).2.1,.bool (s k).2.2.1,.int .i64 (s k).2.2.2]] W fun e w'=>e= .returned (.tuple #[.agg #[.int .i64 (s (k+1)).1,.int .i64 (s (k+1)).2.1,.bool (s (k+1)).2.2.1,.int .i64 (s (k+1)).2.2.2],.int .i64 0])/\Below W.heap.size W w'))
  (HE:Hid (∀W:World,Tab W 7 kevCells->Tab W 5 lenCells->Calls Tryo.prog 67 #[.agg #[.int .i64 (s N).1,.int .i64 (s N).2.1,.bool (s N).2.2.1,.int .i64 (s N).2.2.2]] W fun e w'=>e= .returned (.tuple #[.agg #[.int .i64 0,.int .i64 0,.bool false,.int .i64 0],.int .i64 er])/\Below W.heap.size W w')) (her:(er !=0)=true)
  (d0:w.cell? ⟨Bd,0,none⟩=some (.int .i64 (s 0).1)) (d1:w.cell? ⟨Bd,1,none⟩=some (.int .i64 (s 0).2.1)) (d2:w.cell? ⟨Bd,2,none⟩=some (.bool (s 0).2.2.1)) (d3:w.cell? ⟨Bd,3,none⟩=some (.int .i64 (s 0).2.2.2))
  (hs:w.cell? ⟨Bs,0,none⟩=some (.func (.func 67) #[] #[])) (hW:Below w.heap.size w W0)
  (hY:∀k W1,k<=N->Below W0.heap.size W0 W1->YieldAt Fence.wide (n-1) Tryo.prog l #[.int .i64 (k:Int),.agg #[.int .i64 (s k).1,.int .i64 (s k).2.1,.bool (s k).2.2.1,.int .i64 (s k).2.2.2]] W1 fun e W'=>(e= .returned (.bool true)/\G k/\Below W1.heap.size W1 W')∨(e= .returned (.bool false)/\Jx k W')):
  CallsIn Fence.wide n Tryo.prog 141 #[.func (.yield l) #[] #[],.pointer (some ⟨Bd,0,none⟩),.pointer (some ⟨Bs,0,none⟩)] W0 fun e W'=>(∃v,e= .returned v)/\(((∀k,k<=N->G k)/\Below W0.heap.size W0 W')∨∃k,k<=N/\(∀j,j<k->G j)/\Jx k W'):=by
 have lD:Bd<w.heap.size:=World.block_lt_of_cell? _ _ d0
 have lS:Bs<w.heap.size:=World.block_lt_of_cell? _ _ hs
 have hsz:=hW.size
 have D0:=(hW.cell (p:=⟨Bd,0,none⟩) lD).trans d0
 have D1:=(hW.cell (p:=⟨Bd,1,none⟩) lD).trans d1
 have D2:=(hW.cell (p:=⟨Bd,2,none⟩) lD).trans d2
 have D3:=(hW.cell (p:=⟨Bd,3,none⟩) lD).trans d3
 have SF0:=(hW.cell (p:=⟨Bs,0,none⟩) lS).trans hs
 have HT0:=Tab.below hT hW
 have HL0:=Tab.below hL hW
 clear d0 d1 d2 d3 hs hT hL
 refine callsIn_of_wp Tryo.func141 rfl trivial ?_ rfl
 simp only [Tryz.ntmps141,List.size_toArray,List.length_cons,List.length_nil,Nat.reduceAdd,Nat.reduceSub,Array.replicate_succ,Array.replicate_zero,List.push_toArray,List.append_toArray,List.nil_append,List.cons_append]
 gi_wp2
 gi_loopw [5] (fun i wr=>∃k:Nat,k<=N/\i= .int .i64 (k:Int)/\(∀j,j<k->G j)/\wr.cell? ⟨W0.heap.size,0,none⟩=some (.int .i64 (s k).1)/\wr.cell? ⟨W0.heap.size,1,none⟩=some (.int .i64 (s k).2.1)/\wr.cell? ⟨W0.heap.size,2,none⟩=some (.bool (s k).2.2.1)/\wr.cell? ⟨W0.heap.size,3,none⟩=some (.int .i64 (s k).2.2.2)/\wr.frozen? ⟨W0.heap.size,0,none⟩=false/\wr.frozen? ⟨W0.heap.size,1,none⟩=false/\wr.frozen? ⟨W0.heap.size,2,none⟩=false/\wr.frozen? ⟨W0.heap.size,3,none⟩=false/\Below W0.heap.size W0 wr) (fun i _=>N-(intOf i).toNat)
 case atStart=>
  exact⟨0,Nat.zero_le _,rfl,fun j hj=>absurd hj (Nat.not_lt_zero _),by simp [go_sem],by simp [go_sem],by simp [go_sem],by simp [go_sem],by simp [go_sem],by simp [go_sem],by simp [go_sem],by simp [go_sem],bel⟩
 case round=>
  obtain⟨k,hk,rfl,hG,a0,a1,a2,a3,z0,z1,z2,z3,hB⟩:=hrel
  obtain⟨fn,tmps,assign,body,hy,hR⟩:=hY k wr hk hB
  have lA:W0.heap.size<wr.heap.size:=World.block_lt_of_cell? _ _ a0
  gi_wp2
  refine⟨fun h=>(by cases h),hR.mono ?_⟩
  rintro e W1 (⟨rfl,hGk,hb⟩|⟨rfl,hJ⟩)
  ·have l1:=hb.size
   have A0:=(hb.cell (p:=⟨W0.heap.size,0,none⟩) lA).trans a0
   have A1:=(hb.cell (p:=⟨W0.heap.size,1,none⟩) lA).trans a1
   have A2:=(hb.cell (p:=⟨W0.heap.size,2,none⟩) lA).trans a2
   have A3:=(hb.cell (p:=⟨W0.heap.size,3,none⟩) lA).trans a3
   have Z0:=(hb.frozen (p:=⟨W0.heap.size,0,none⟩) lA).trans z0
   have Z1:=(hb.frozen (p:=⟨W0.heap.size,1,none⟩) lA).trans z1
   have Z2:=(hb.frozen (p:=⟨W0.heap.size,2,none⟩) lA).trans z2
   have Z3:=(hb.frozen (p:=⟨W0.heap.size,3,none⟩) lA).trans z3
   have hBB:Below W0.heap.size W0 W1:=bt hB hb
   have SF:=(hBB.cell (p:=⟨Bs,0,none⟩) (by simp;omega)).trans SF0
   have HT1:=Tab.below HT0 hBB
   have HL1:=Tab.below HL0 hBB
   have lW:W0.heap.size<W1.heap.size:=by omega
   clear a0 a1 a2 a3 z0 z1 z2 z3 hy hR SF0 D0 D1 D2 D3
   by_cases hlt:k<N
   ·have HC:=Lib.hid (HS.out k hlt)
    gi_wp2
    refine⟨trivial,fun h=>(by cases h),(callsIn_wide.2 (HC.out _ HT1 HL1)).mono ?_⟩
    rintro e w3 ⟨rfl,hb3⟩
    have l3:=hb3.size
    have B0:=(hb3.cell (p:=⟨W0.heap.size,0,none⟩) lW).trans A0
    have B1:=(hb3.cell (p:=⟨W0.heap.size,1,none⟩) lW).trans A1
    have B2:=(hb3.cell (p:=⟨W0.heap.size,2,none⟩) lW).trans A2
    have B3:=(hb3.cell (p:=⟨W0.heap.size,3,none⟩) lW).trans A3
    have Y0:=(hb3.frozen (p:=⟨W0.heap.size,0,none⟩) lW).trans Z0
    have Y1:=(hb3.frozen (p:=⟨W0.heap.size,1,none⟩) lW).trans Z1
    have Y2:=(hb3.frozen (p:=⟨W0.heap.size,2,none⟩) lW).trans Z2
    have Y3:=(hb3.frozen (p:=⟨W0.heap.size,3,none⟩) lW).trans Z3
    have hB3:Below W0.heap.size W0 w3:=bt hBB hb3
    have lX:W0.heap.size<w3.heap.size:=by omega
    clear A0 A1 A2 A3 Z0 Z1 Z2 Z3 SF
    have k1:(k:Int)<=4000000:=by omega
    have k0:(0:Int)<=(k:Int):=by omega
    gi_wp2
    go_roundw
    case rel=>
     refine⟨k+1,by omega,by go_num,fun j hj=> ?_,by simp [go_sem, *],by simp [go_sem, *],by simp [go_sem, *],by simp [go_sem, *],by simp [go_sem, *],by simp [go_sem, *],by simp [go_sem, *],by simp [go_sem, *], ?_⟩
     ·by_cases e:j=k
      ·subst e;exact hGk
      ·exact hG j (by omega)
     ·exact bel
    case measure=>simp [intOf];omega
   ·obtain rfl:k=N:=by omega
    clear hlt HS
    gi_wp2
    refine⟨trivial,fun h=>(by cases h),(callsIn_wide.2 (HE.out _ HT1 HL1)).mono ?_⟩
    rintro e w3 ⟨rfl,hb3⟩
    have l3:=hb3.size
    have hB3:Below W0.heap.size W0 w3:=bt hBB hb3
    gi_wp2
    refine bodyPost_ret (results_none rfl _ _ _) rfl ?_
    refine⟨⟨_,rfl⟩,.inl ⟨fun j hj=> ?_, ?_⟩⟩
    ·by_cases e:j=k
     ·subst e;exact hGk
     ·exact hG j (by omega)
    ·exact bel
  ·gi_wp2
   go_end0
   exact⟨⟨_,rfl⟩,.inr ⟨k,hk,hG,hJ⟩⟩
theorem AL(n:Nat)(s:Nat->Dt)(er:Int)(N:Nat)(hN:N<=4000000)(l Bd Bs:Nat)(w W0:World)(hT:Tab w 7 kevCells)(hL:Tab w 5 lenCells)(G:Nat->Prop)(Jx:Nat->World->Prop)
  (HS:Hid (∀k,k<N->∀W:World,Tab W 7 kevCells->Tab W 5 lenCells->Calls Tryo.prog 68 #[.agg #[.int .i64 (s k).1,.int .i64 (s k).2.1,.bool (s k).2.2.1,.int .i64 (s k).2.2.2]] W fun e w'=>e= .returned (.tuple #[.agg #[.int .i64 (s (k+1)).1,.int .i64 (s (k+1)).2.1,.bool (s (k+1)).2.2.1,.int .i64 (s (k+1)).2.2.2],.int .i64 0])/\Below W.heap.size W w'))
  (HE:Hid (∀W:World,Tab W 7 kevCells->Tab W 5 lenCells->Calls Tryo.prog 68 #[.agg #[.int .i64 (s N).1,.int .i64 (s N).2.1,.bool (s N).2.2.1,.int .i64 (s N).2.2.2]] W fun e w'=>e= .returned (.tuple #[.agg #[.int .i64 0,.int .i64 0,.bool false,.int .i64 0],.int .i64 er])/\Below W.heap.size W w')) (her:(er !=0)=true)
  (d0:w.cell? ⟨Bd,0,none⟩=some (.int .i64 (s 0).1)) (d1:w.cell? ⟨Bd,1,none⟩=some (.int .i64 (s 0).2.1)) (d2:w.cell? ⟨Bd,2,none⟩=some (.bool (s 0).2.2.1)) (d3:w.cell? ⟨Bd,3,none⟩=some (.int .i64 (s 0).2.2.2))
  (hs:w.cell? ⟨Bs,0,none⟩=some (.func (.func 68) #[] #[])) (hW:Below w.heap.size w W0)
  (hY:∀k W1,k<=N->Below W0.heap.size W0 W1->YieldAt Fence.wide (n-1) Tryo.prog l #[.int .i64 (k:Int),.agg #[.int .i64 (s k).1,.int .i64 (s k).2.1,.bool (s k).2.2.1,.int .i64 (s k).2.2.2]] W1 fun e W'=>(e= .returned (.bool true)/\G k/\Below W1.heap.size W1 W')∨(e= .returned (.bool false)/\Jx k W')):
  CallsIn Fence.wide n Tryo.prog 141 #[.func (.yield l) #[] #[],.pointer (some ⟨Bd,0,none⟩),.pointer (some ⟨Bs,0,none⟩)] W0 fun e W'=>(∃v,e= .returned v)/\(((∀k,k<=N->G k)/\Below W0.heap.size W0 W')∨∃k,k<=N/\(∀j,j<k->G j)/\Jx k W'):=by
 have lD:Bd<w.heap.size:=World.block_lt_of_cell? _ _ d0
 have lS:Bs<w.heap.size:=World.block_lt_of_cell? _ _ hs
 have hsz:=hW.size
 have D0:=(hW.cell (p:=⟨Bd,0,none⟩) lD).trans d0
 have D1:=(hW.cell (p:=⟨Bd,1,none⟩) lD).trans d1
 have D2:=(hW.cell (p:=⟨Bd,2,none⟩) lD).trans d2
 have D3:=(hW.cell (p:=⟨Bd,3,none⟩) lD).trans d3
 have SF0:=(hW.cell (p:=⟨Bs,0,none⟩) lS).trans hs
 have HT0:=Tab.below hT hW
 have HL0:=Tab.below hL hW
 clear d0 d1 d2 d3 hs hT hL
 refine callsIn_of_wp Tryo.func141 rfl trivial ?_ rfl
 simp only [Tryz.ntmps141,List.size_toArray,List.length_cons,List.length_nil,Nat.reduceAdd,Nat.reduceSub,Array.replicate_succ,Array.replicate_zero,List.push_toArray,List.append_toArray,List.nil_append,List.cons_append]
 gi_wp2
 gi_loopw [5] (fun i wr=>∃k:Nat,k<=N/\i= .int .i64 (k:Int)/\(∀j,j<k->G j)/\wr.cell? ⟨W0.heap.size,0,none⟩=some (.int .i64 (s k).1)/\wr.cell? ⟨W0.heap.size,1,none⟩=some (.int .i64 (s k).2.1)/\wr.cell? ⟨W0.heap.size,2,none⟩=some (.bool (s k).2.2.1)/\wr.cell? ⟨W0.heap.size,3,none⟩=some (.int .i64 (s k).2.2.2)/\wr.frozen? ⟨W0.heap.size,0,none⟩=false/\wr.frozen? ⟨W0.heap.size,1,none⟩=false/\wr.frozen? ⟨W0.heap.size,2,none⟩=false/\wr.frozen? ⟨W0.heap.size,3,none⟩=false/\Below W0.heap.size W0 wr) (fun i _=>N-(intOf i).toNat)
 case atStart=>
  exact⟨0,Nat.zero_le _,rfl,fun j hj=>absurd hj (Nat.not_lt_zero _),by simp [go_sem],by simp [go_sem],by simp [go_sem],by simp [go_sem],by simp [go_sem],by simp [go_sem],by simp [go_sem],by simp [go_sem],bel⟩
 case round=>
  obtain⟨k,hk,rfl,hG,a0,a1,a2,a3,z0,z1,z2,z3,hB⟩:=hrel
  obtain⟨fn,tmps,assign,body,hy,hR⟩:=hY k wr hk hB
  have lA:W0.heap.size<wr.heap.size:=World.block_lt_of_cell? _ _ a0
  gi_wp2
  refine⟨fun h=>(by cases h),hR.mono ?_⟩
  rintro e W1 (⟨rfl,hGk,hb⟩|⟨rfl,hJ⟩)
  ·have l1:=hb.size
   have A0:=(hb.cell (p:=⟨W0.heap.size,0,none⟩) lA).trans a0
   have A1:=(hb.cell (p:=⟨W0.heap.size,1,none⟩) lA).trans a1
   have A2:=(hb.cell (p:=⟨W0.heap.size,2,none⟩) lA).trans a2
   have A3:=(hb.cell (p:=⟨W0.heap.size,3,none⟩) lA).trans a3
   have Z0:=(hb.frozen (p:=⟨W0.heap.size,0,none⟩) lA).trans z0
   have Z1:=(hb.frozen (p:=⟨W0.heap.size,1,none⟩) lA).trans z1
   have Z2:=(hb.frozen (p:=⟨W0.heap.size,2,none⟩) lA).trans z2
   have Z3:=(hb.frozen (p:=⟨W0.heap.size,3,none⟩) lA).trans z3
   have hBB:Below W0.heap.size W0 W1:=bt hB hb
   have SF:=(hBB.cell (p:=⟨Bs,0,none⟩) (by simp;omega)).trans SF0
   have HT1:=Tab.below HT0 hBB
   have HL1:=Tab.below HL0 hBB
   have lW:W0.heap.size<W1.heap.size:=by omega
   clear a0 a1 a2 a3 z0 z1 z2 z3 hy hR SF0 D0 D1 D2 D3
   by_cases hlt:k<N
   ·have HC:=Lib.hid (HS.out k hlt)
    gi_wp2
    refine⟨trivial,fun h=>(by cases h),(callsIn_wide.2 (HC.out _ HT1 HL1)).mono ?_⟩
    rintro e w3 ⟨rfl,hb3⟩
    have l3:=hb3.size
    have B0:=(hb3.cell (p:=⟨W0.heap.size,0,none⟩) lW).trans A0
    have B1:=(hb3.cell (p:=⟨W0.heap.size,1,none⟩) lW).trans A1
    have B2:=(hb3.cell (p:=⟨W0.heap.size,2,none⟩) lW).trans A2
    have B3:=(hb3.cell (p:=⟨W0.heap.size,3,none⟩) lW).trans A3
    have Y0:=(hb3.frozen (p:=⟨W0.heap.size,0,none⟩) lW).trans Z0
    have Y1:=(hb3.frozen (p:=⟨W0.heap.size,1,none⟩) lW).trans Z1
    have Y2:=(hb3.frozen (p:=⟨W0.heap.size,2,none⟩) lW).trans Z2
    have Y3:=(hb3.frozen (p:=⟨W0.heap.size,3,none⟩) lW).trans Z3
    have hB3:Below W0.heap.size W0 w3:=bt hBB hb3
    have lX:W0.heap.size<w3.heap.size:=by omega
    clear A0 A1 A2 A3 Z0 Z1 Z2 Z3 SF
    have k1:(k:Int)<=4000000:=by omega
    have k0:(0:Int)<=(k:Int):=by omega
    gi_wp2
    go_roundw
    case rel=>
     refine⟨k+1,by omega,by go_num,fun j hj=> ?_,by simp [go_sem, *],by simp [go_sem, *],by simp [go_sem, *],by simp [go_sem, *],by simp [go_sem, *],by simp [go_sem, *],by simp [go_sem, *],by simp [go_sem, *], ?_⟩
     ·by_cases e:j=k
      ·subst e;exact hGk
      ·exact hG j (by omega)
     ·exact bel
    case measure=>simp [intOf];omega
   ·obtain rfl:k=N:=by omega
    clear hlt HS
    gi_wp2
    refine⟨trivial,fun h=>(by cases h),(callsIn_wide.2 (HE.out _ HT1 HL1)).mono ?_⟩
    rintro e w3 ⟨rfl,hb3⟩
    have l3:=hb3.size
    have hB3:Below W0.heap.size W0 w3:=bt hBB hb3
    gi_wp2
    refine bodyPost_ret (results_none rfl _ _ _) rfl ?_
    refine⟨⟨_,rfl⟩,.inl ⟨fun j hj=> ?_, ?_⟩⟩
    ·by_cases e:j=k
     ·subst e;exact hGk
     ·exact hG j (by omega)
    ·exact bel
  ·gi_wp2
   go_end0
   exact⟨⟨_,rfl⟩,.inr ⟨k,hk,hG,hJ⟩⟩
end
end Go.Proofs.YthnjjcoahdhmnaaGreatDoor
