import Derived.Test.YtljbnicolhhicaaGreatDoorZG1
set_option linter.defProp false
set_option maxHeartbeats 8000000
set_option maxRecDepth 100000
set_option linter.unusedVariables false
namespace Go.Proofs.YtljbnicolhhicaaGreatDoor
section
open Go.ChangeShapes Go.WideShapes Go.ChangeAt Go.RowKit
end
section
open Go.ChangeShapes Go.WideShapes Go.ChangeAt Go.RowKit
namespace Gr
def before(y m:Int):Int:=((ml y).take (m-1).toNat).sum
def bA(y m d:Int):Int:=ahead y+d+before y m
theorem aan(y:Int)(j:Nat)(hj:j<=12):0<=((ml y).take j).sum/\((ml y).take j).sum<=366:=by
 have a:=D10.zR (ml y) (fun x hx=>by have:=aaV y x hx;omega) 0 j
 have b:=D10.zR (ml y) (fun x hx=>by have:=aaV y x hx;omega) j (12-j)
 rw [show j+(12-j)=12 by omega,List.take_of_length_le (show(ml y).length<=12 from Nat.le_refl _),ab7]at b
 simp at a
 have:long y<=366:=by unfold long;split <;> omega
 omega
theorem Yn(y:Int)(h1: -4000<=y)(h2:y<=7000): -2000000<=ahead y/\ahead y<=3000000:=by unfold ahead;omega
end Gr
theorem KL(y m d:Int)(w:World)(hG:Tab w 1 Gr.gregCells)(h:y< -4000):
  vB 33 #[.agg #[y,m,d]] w (.tuple #[(0:Int),(2:Int)]):=by
 go_enter (vF Tryz.func33),Tryz.ntmps33
 go_wp2_with fail
 go_ret2
 exact⟨rfl,ba _ _⟩
theorem K4(y m d:Int)(w:World)(hG:Tab w 1 Gr.gregCells)(h1: -4000<=y)(h:7000<y):
  vB 33 #[.agg #[y,m,d]] w (.tuple #[(0:Int),(2:Int)]):=by
 go_enter (vF Tryz.func33),Tryz.ntmps33
 go_wp2_with fail
 go_ret2
 exact⟨rfl,ba _ _⟩
theorem Kt(y m d:Int)(w:World)(hG:Tab w 1 Gr.gregCells)(h1: -4000<=y)(h2:y<=7000)(h:m<1):
  vB 33 #[.agg #[y,m,d]] w (.tuple #[(0:Int),(3:Int)]):=by
 go_enter (vF Tryz.func33),Tryz.ntmps33
 go_wp2_with fail
 go_ret2
 exact⟨rfl,ba _ _⟩
theorem J7(y m d:Int)(w:World)(hG:Tab w 1 Gr.gregCells)(h1: -4000<=y)(h2:y<=7000)(h3:1<=m)(h:12<m):
  vB 33 #[.agg #[y,m,d]] w (.tuple #[(0:Int),(3:Int)]):=by
 go_enter (vF Tryz.func33),Tryz.ntmps33
 go_wp2_with fail
 go_ret2
 exact⟨rfl,ba _ _⟩
theorem Kq(y m d:Int)(w:World)(hG:Tab w 1 Gr.gregCells)(h1: -4000<=y)(h2:y<=7000)(h3:1<=m)(h4:m<=12)(h:d<1):
  vB 33 #[.agg #[y,m,d]] w (.tuple #[(0:Int),(4:Int)]):=by
 have g1:decide (d<1)=true:=by simpa using h
 go_enter (vF Tryz.func33),Tryz.ntmps33
 go_wp2_with fail
 refine settle (fun W=>W.cell? ⟨w.1.size,0,none⟩=some (y:vV)/\W.cell? ⟨w.1.size,1,none⟩=some (m:vV)/\W.cell? ⟨w.1.size,2,none⟩=some (d:vV)/\w.1.size<W.1.size/\Below w.1.size w W/\Tab W 1 Gr.gregCells) ⟨vG,vG,vG,vS,ba _ _,Tab.below hG (ba _ _)⟩ ?_
 rintro W0 ⟨c0,c1,c2,cs,hB0,hG0⟩
 refine bP vK vK (fun hall=> ?_)
 repeat(first|go_big_quiet_skip|(go_big_quiet_want;first|(refine ql1 _ _ _ rfl rfl ?_;apply Exists.intro;refine⟨?_, ?_⟩;assumption;go_simp;go_big_quiet_on)|(refine ql2 _ _ _ _ rfl rfl ?_;apply Exists.intro;apply Exists.intro;refine⟨?_, ?_, ?_⟩;assumption;assumption;go_simp;go_big_quiet_on)|(refine ql3 _ _ _ _ rfl rfl ?_;apply Exists.intro;apply Exists.intro;apply Exists.intro;refine⟨?_, ?_, ?_, ?_⟩;assumption;assumption;assumption;go_simp;go_big_quiet_on)|(refine ql4 _ _ _ _ rfl rfl ?_;apply Exists.intro;apply Exists.intro;apply Exists.intro;apply Exists.intro;refine⟨?_, ?_, ?_, ?_, ?_⟩;assumption;assumption;assumption;assumption;go_simp;go_big_quiet_on)|(go_big_quiet_op;first|go_big_quiet_on|(apply Exists.intro;refine⟨fun x hx=> ?_, ?_⟩;(first|fail);go_big_quiet_on))))
 refine wpQuiet_nil ?_
 clear hall
 intro x1 hx1
 go_wp2_with fail
 go_ret2
 exact⟨rfl,bt hB0 hx1⟩
theorem K9(y m d:Int)(w:World)(hG:Tab w 1 Gr.gregCells)(h1: -4000<=y)(h2:y<=7000)(h3:1<=m)(h4:m<=12)(h5:1<=d)(h:Gr.days y m<d):
  vB 33 #[.agg #[y,m,d]] w (.tuple #[(0:Int),(4:Int)]):=by
 have HD:=Lib.hid (fun i w hG=>Ml y i w hG ⟨vO,vO⟩)
 have g1:decide (d<1)=false:=vQ
 generalize hN:Gr.days y m=N at*
 have HDm:=Lib.hid (fun w hG=>(hN▸HD.out m w hG:vB 64 #[y,m] w (.int .i64 N)))
 clear hN
 go_enter (vF Tryz.func33),Tryz.ntmps33
 go_wp2_with fail
 refine settle (fun W=>W.cell? ⟨w.1.size,0,none⟩=some (y:vV)/\W.cell? ⟨w.1.size,1,none⟩=some (m:vV)/\W.cell? ⟨w.1.size,2,none⟩=some (d:vV)/\w.1.size<W.1.size/\Below w.1.size w W/\Tab W 1 Gr.gregCells) ⟨vG,vG,vG,vS,ba _ _,Tab.below hG (ba _ _)⟩ ?_
 rintro W0 ⟨c0,c1,c2,cs,hB0,hG0⟩
 refine bP vK vK (fun hall=> ?_)
 repeat(first|go_big_quiet_skip|(go_big_quiet_want;first|(refine ql1 _ _ _ rfl rfl ?_;apply Exists.intro;refine⟨?_, ?_⟩;assumption;go_simp;go_big_quiet_on)|(refine ql2 _ _ _ _ rfl rfl ?_;apply Exists.intro;apply Exists.intro;refine⟨?_, ?_, ?_⟩;assumption;assumption;go_simp;go_big_quiet_on)|(refine ql3 _ _ _ _ rfl rfl ?_;apply Exists.intro;apply Exists.intro;apply Exists.intro;refine⟨?_, ?_, ?_, ?_⟩;assumption;assumption;assumption;go_simp;go_big_quiet_on)|(refine ql4 _ _ _ _ rfl rfl ?_;apply Exists.intro;apply Exists.intro;apply Exists.intro;apply Exists.intro;refine⟨?_, ?_, ?_, ?_, ?_⟩;assumption;assumption;assumption;assumption;go_simp;go_big_quiet_on)|(go_big_quiet_op;first|go_big_quiet_on|(apply Exists.intro;refine⟨fun x hx=> ?_, ?_⟩;(first|exact dn hx (HDm.out x (Tab.below hG0 hx)));go_big_quiet_on))))
 refine wpQuiet_nil ?_
 clear hall
 intro x1 hx1
 go_wp2_with fail
 go_ret2
 exact⟨rfl,bt hB0 hx1⟩
end
section
open Go.ChangeShapes Go.WideShapes Go.ChangeAt Go.RowKit
theorem oV:(∀(y m d:Int)(w:World)(hG:Tab w 1 Gr.gregCells)(h1: -4000<=y)(h2:y<=7000)(h3:1<=m)(h4:m<=12)(h5:1<=d)(h:d<=Gr.days y m)(b1: -1373427<=Gr.bA y m d)(b2:Gr.bA y m d<=2278650),vB 33 #[.agg #[y,m,d]] w (.tuple #[Gr.bA y m d,(0:Int)]))/\(∀(y m d:Int)(w:World)(hG:Tab w 1 Gr.gregCells)(h1: -4000<=y)(h2:y<=7000)(h3:1<=m)(h4:m<=12)(h5:1<=d)(h:d<=Gr.days y m)(b:Gr.bA y m d< -1373427∨2278650<Gr.bA y m d),vB 33 #[.agg #[y,m,d]] w (.tuple #[(0:Int),(2:Int)])):=by
 refine⟨@fun y m d w hG h1 h2 h3 h4 h5 h b1 b2=>(fun(k90:Nat)=> ?_) 0,@fun y m d w hG h1 h2 h3 h4 h5 h b=> ?_⟩
 all_goals(
 have HD:=Lib.hid (fun i w hG=>Ml y i w hG ⟨vO,vO⟩)
 first|(have _:=k90;(obtain⟨hy,y1,y2,f1,f2⟩:=U4 _ b1 b2);(have HC:=Lib.hid (fun w=>yT (Gr.bA y m d) hy w y1 y2 f1 f2 b1 b2));(clear f1 f2 y1 y2 b1 b2))|((have HC:=Lib.hid (fun w=>zD (Gr.bA y m d) w b));(clear b))
 obtain⟨M,hM,hM2⟩:∃M:Nat,m=(M:Int)+1/\M<12:=⟨(m-1).toNat,vO,vO⟩
 subst hM
 obtain⟨N,hN,hN1,hN2,hN3⟩:=Gr.aaX y M hM2
 have hab:=Gr.Yn y h1 h2
 have HA:=Lib.hid (fun w=>Ux y w vO vO)
 have hat:=Lib.hid (Gr.aaX y)
 have htk:=Lib.hid (Gr.aan y)
 have hdo:Gr.bA y ((M:Int)+1) d=Gr.ahead y+d+((Gr.ml y).take M).sum:=by unfold Gr.bA Gr.before;rw [show((M:Int)+1-1).toNat=M by omega]
 rw [hdo]at HC
 rw [hN1]at h
 have HDm:=Lib.hid (fun w hG=>(hN1▸HD.out ((M:Int)+1) w hG:vB 64 #[y,.int .i64 ((M:Int)+1)] w (.int .i64 N)))
 clear hN1 hN
 first|(have _:=k90;rw [hdo])|(skip)
 clear hdo
 generalize Gr.ahead y=A at*
 have g1:decide (d<1)=false:=vQ
 go_enter (vF Tryz.func33),Tryz.ntmps33
 go_wp2_with fail
 refine settle (fun W=>W.cell? ⟨w.1.size,0,none⟩=some (y:vV)/\W.cell? ⟨w.1.size,1,none⟩=some (.int .i64 ((M:Int)+1))/\W.cell? ⟨w.1.size,2,none⟩=some (d:vV)/\w.1.size<W.1.size/\Below w.1.size w W/\Tab W 1 Gr.gregCells) ⟨vG,vG,vG,vS,ba _ _,Tab.below hG (ba _ _)⟩ ?_
 rintro W0 ⟨c0,c1,c2,cs,hB0,hG0⟩
 refine bP vK vK (fun hall=> ?_)
 repeat(first|go_big_quiet_skip|(go_big_quiet_want;first|(refine ql1 _ _ _ rfl rfl ?_;apply Exists.intro;refine⟨?_, ?_⟩;assumption;go_simp;go_big_quiet_on)|(refine ql2 _ _ _ _ rfl rfl ?_;apply Exists.intro;apply Exists.intro;refine⟨?_, ?_, ?_⟩;assumption;assumption;go_simp;go_big_quiet_on)|(refine ql3 _ _ _ _ rfl rfl ?_;apply Exists.intro;apply Exists.intro;apply Exists.intro;refine⟨?_, ?_, ?_, ?_⟩;assumption;assumption;assumption;go_simp;go_big_quiet_on)|(refine ql4 _ _ _ _ rfl rfl ?_;apply Exists.intro;apply Exists.intro;apply Exists.intro;apply Exists.intro;refine⟨?_, ?_, ?_, ?_, ?_⟩;assumption;assumption;assumption;assumption;go_simp;go_big_quiet_on)|(go_big_quiet_op;first|go_big_quiet_on|(apply Exists.intro;refine⟨fun x hx=> ?_, ?_⟩;(first|exact dn hx (HDm.out x (Tab.below hG0 hx)));go_big_quiet_on))))
 refine wpQuiet_nil ?_
 clear hall
 intro x1 hx1
 have k0:=(hx1.cell (p:=⟨w.1.size,0,none⟩) cs).trans c0
 have k1:=(hx1.cell (p:=⟨w.1.size,1,none⟩) cs).trans c1
 have k2:=(hx1.cell (p:=⟨w.1.size,2,none⟩) cs).trans c2
 have ks:w.1.size<x1.1.size:=Nat.lt_of_lt_of_le cs hx1.size
 have hB1:Below w.1.size w x1:=bt hB0 hx1
 clear c0 c1 c2 cs
 go_wp2_with fail
 refine bP vK vK (fun hall=> ?_)
 repeat(first|go_big_quiet_skip|(go_big_quiet_want;first|(refine ql1 _ _ _ rfl rfl ?_;apply Exists.intro;refine⟨?_, ?_⟩;assumption;go_simp;go_big_quiet_on)|(refine ql2 _ _ _ _ rfl rfl ?_;apply Exists.intro;apply Exists.intro;refine⟨?_, ?_, ?_⟩;assumption;assumption;go_simp;go_big_quiet_on)|(refine ql3 _ _ _ _ rfl rfl ?_;apply Exists.intro;apply Exists.intro;apply Exists.intro;refine⟨?_, ?_, ?_, ?_⟩;assumption;assumption;assumption;go_simp;go_big_quiet_on)|(refine ql4 _ _ _ _ rfl rfl ?_;apply Exists.intro;apply Exists.intro;apply Exists.intro;apply Exists.intro;refine⟨?_, ?_, ?_, ?_, ?_⟩;assumption;assumption;assumption;assumption;go_simp;go_big_quiet_on)|(go_big_quiet_op;first|go_big_quiet_on|(apply Exists.intro;refine⟨fun x hx=> ?_, ?_⟩;(first|exact jK hx (HA.out x));go_big_quiet_on))))
 refine wpQuiet_nil ?_
 clear hall
 intro x2 hx2
 have c0:=(hx2.cell (p:=⟨w.1.size,0,none⟩) ks).trans k0
 have c1:=(hx2.cell (p:=⟨w.1.size,1,none⟩) ks).trans k1
 have cs:w.1.size<x2.1.size:=Nat.lt_of_lt_of_le ks hx2.size
 have hB2:Below w.1.size w x2:=bt hB1 hx2
 clear k0 k1 k2 ks hx1 hx2
 go_wp2_with fail
 go_loopw [4,5] (fun s i wr=>∃j:Nat,j<=M/\i= .int .i64 ((j:Int)+1)/\s= .int .i64 (A+d+((Gr.ml y).take j).sum)/\wr.cell? ⟨w.1.size,0,none⟩=some (y:vV)/\wr.cell? ⟨w.1.size,1,none⟩=some (.int .i64 ((M:Int)+1))/\w.1.size<wr.1.size/\Below w.1.size w wr) (fun _ i _=>M+1-(intOf i).toNat)
 case atStart=>exact⟨0,vO,rfl,vS,c0,c1,cs,hB2⟩
 case round=>
  obtain⟨j,hj,rfl,rfl,e0,e1,es,hB⟩:=hrel
  clear c0 c1 cs hB2 hB1 hB0 hG0
  have tb:=htk.out j vO
  by_cases c:j<M
  ·obtain⟨x,x1',x2',x3,x4⟩:=hat.out j vO
   have tn:=oq (Gr.ml y) j x x1'
   have HDj:=Lib.hid (fun w hG=>(x2'▸HD.out ((j:Int)+1) w hG:vB 64 #[y,.int .i64 ((j:Int)+1)] w (.int .i64 x)))
   have HS:=Lib.hid tn
   clear tn x1' x2'
   generalize hS:((Gr.ml y).take j).sum=S at*
   go_wp2_with fail
   refine(HDj.out _ (Tab.below hG hB)).mono ?_
   rintro e w5 ⟨rfl,hb5⟩
   have e0':=(hb5.cell (p:=⟨w.1.size,0,none⟩) es).trans e0
   have e1':=(hb5.cell (p:=⟨w.1.size,1,none⟩) es).trans e1
   have es':=Nat.lt_of_lt_of_le es hb5.size
   have hB5:=bt hB hb5
   go_wp2_with fail
   go_roundw
   case rel=>exact⟨j+1,vO,vS,by rw [HS.out];simp;omega,e0',e1',es',hB5⟩
   case measure=>simp [intOf];omega
  ·obtain rfl:j=M:=vO
   clear c
   generalize hS:((Gr.ml y).take j).sum=S at*
   go_wp2_with fail
   refine(HC.out _).mono ?_
   rintro e w5 ⟨rfl,hb5⟩
   go_wp2_with fail
   subst hS
   go_ret2
   exact⟨rfl,bt hB hb5⟩
 )
def EI:=oV.1
def Ci:=oV.2
end
section
open Go.ChangeShapes Go.WideShapes Go.ChangeAt Go.RowKit
namespace Gr
def gtE(y m d:Int):Int:=if y< -4000∨7000<y then 2 else if m<1∨12<m then 3 else if d<1∨days y m<d then 4 else if bA y m d< -1373427∨2278650<bA y m d then 2 else 0
def gtV(y m d:Int):Int:=if gtE y m d=0 then bA y m d else 0
end Gr
theorem Bu(y m d:Int)(w:World)(hG:Tab w 1 Gr.gregCells):
  vB 33 #[.agg #[y,m,d]] w (.tuple #[Gr.gtV y m d,Gr.gtE y m d]):=by
 by_cases c1:y< -4000∨7000<y
 ·have e:Gr.gtE y m d=2:=by unfold Gr.gtE;rw [if_pos c1]
  rw [show Gr.gtV y m d=0 by unfold Gr.gtV;rw [e,if_neg vO],e]
  by_cases h:y< -4000
  ·exact KL y m d w hG h
  ·exact K4 y m d w hG vO vO
 by_cases c2:m<1∨12<m
 ·have e:Gr.gtE y m d=3:=by unfold Gr.gtE;rw [if_neg c1,if_pos c2]
  rw [show Gr.gtV y m d=0 by unfold Gr.gtV;rw [e,if_neg vO],e]
  by_cases h:m<1
  ·exact Kt y m d w hG vO vO h
  ·exact J7 y m d w hG vO vO vO vO
 by_cases c3:d<1∨Gr.days y m<d
 ·have e:Gr.gtE y m d=4:=by unfold Gr.gtE;rw [if_neg c1,if_neg c2,if_pos c3]
  rw [show Gr.gtV y m d=0 by unfold Gr.gtV;rw [e,if_neg vO],e]
  by_cases h:d<1
  ·exact Kq y m d w hG vO vO vO vO h
  ·exact K9 y m d w hG vO vO vO vO vO vO
 by_cases c4:Gr.bA y m d< -1373427∨2278650<Gr.bA y m d
 ·have e:Gr.gtE y m d=2:=by unfold Gr.gtE;rw [if_neg c1,if_neg c2,if_neg c3,if_pos c4]
  rw [show Gr.gtV y m d=0 by unfold Gr.gtV;rw [e,if_neg vO],e]
  exact Ci y m d w hG vO vO vO vO vO vO c4
 ·have e:Gr.gtE y m d=0:=by unfold Gr.gtE;rw [if_neg c1,if_neg c2,if_neg c3,if_neg c4]
  rw [show Gr.gtV y m d=Gr.bA y m d by unfold Gr.gtV;rw [e,if_pos rfl],e]
  exact EI y m d w hG vO vO vO vO vO vO vO vO
end
end Go.Proofs.YtljbnicolhhicaaGreatDoor
