import Derived.Test.YtljbnicolhhicaaGreatDoorZSH
import Derived.Test.YtljbnicolhhicaaGreatDoorZTL
set_option linter.defProp false
set_option maxHeartbeats 8000000
set_option maxRecDepth 100000
set_option linter.unusedSimpArgs false
set_option linter.unusedVariables false
namespace Go.Proofs.YtljbnicolhhicaaGreatDoor
section
open Go.ChangeShapes Go.WideShapes Go.ChangeAt Go.RowKit Go.Lib
theorem dO{W w':World}{B:Nat}{a b c d:Value}(hc:∀b o,b<W.1.size->w'.cell? ⟨b,o,none⟩=W.cell? ⟨b,o,none⟩)(h1:B<W.1.size:=by first|omega|(simp;done)|(simp;omega))(h2:W.cell? ⟨B,0,none⟩=some a:=by first|(with_reducible assumption)|(simp [go_sem];done)|(simp [go_sem, *];done)|assumption)(h3:W.cell? ⟨B,1,none⟩=some b:=by first|(with_reducible assumption)|(simp [go_sem];done)|(simp [go_sem, *];done)|assumption)(h4:W.cell? ⟨B,2,none⟩=some c:=by first|(with_reducible assumption)|(simp [go_sem];done)|(simp [go_sem, *];done)|assumption)(h5:W.cell? ⟨B,3,none⟩=some d:=by first|(with_reducible assumption)|(simp [go_sem];done)|(simp [go_sem, *];done)|assumption):
  w'.cell? ⟨B,0,none⟩=some a/\w'.cell? ⟨B,1,none⟩=some b/\w'.cell? ⟨B,2,none⟩=some c/\w'.cell? ⟨B,3,none⟩=some d:=
 ⟨(hc _ _ h1).trans h2,(hc _ _ h1).trans h3,(hc _ _ h1).trans h4,(hc _ _ h1).trans h5⟩
end
section
open Go.RowKit
namespace A18
def iw(y n:Int)(l:Bool)(d Y:Int):Int:=if D10.aK y n l d=0 then(if Y<1∨9999<Y then 2 else if Y<=y then 1 else 0)else D10.aK y n l d
def cM(Y m d:Int):Int:=if d<=D10.dLen Y m then m else m+1
def cD(Y m d:Int):Int:=if d<=D10.dLen Y m then d else 1
def m0(Y n:Int)(l:Bool):Int:=Cal.plV (Cal.leap Y) (S15.lD Y n l 0) (S15.lu Y n l 0)
def k1(y n:Int)(l:Bool)(d:Int):Bool:=d==30&&((n==2||n==3)&&decide (D10.aY (y+1) n l<30))
def k2(l:Bool)(d Y:Int):Bool:=d==30&&(l&& !Cal.leap Y)
def k3(y n Y:Int):Bool:=n==6&&(!Cal.leap y&&Cal.leap Y)
def dM(y n:Int)(l:Bool)(d Y:Int):Int:=if k1 y n l d then Cal.plV (Cal.leap Y) n l else if k2 l d Y then 5 else if k3 y n Y then cM Y 6 d else cM Y (m0 Y n l) d
def dD(y n:Int)(l:Bool)(d Y:Int):Int:=if k1 y n l d then D10.aY Y n l else if k2 l d Y then 30 else if k3 y n Y then cD Y 6 d else cD Y (m0 Y n l) d
def bY(y n:Int)(l:Bool)(d Y:Int):Int:=if iw y n l d Y=0 then Y else 0
def bN(y n:Int)(l:Bool)(d Y:Int):Int:=if iw y n l d Y=0 then Cal.ofN (Cal.leap Y) (cM Y (m0 Y n l) d)else 0
def bL(y n:Int)(l:Bool)(d Y:Int):Bool:=if iw y n l d Y=0 then Cal.ofL (Cal.leap Y) (cM Y (m0 Y n l) d)else false
def bD(y n:Int)(l:Bool)(d Y:Int):Int:=if iw y n l d Y=0 then cD Y (m0 Y n l) d else 0
def tN(y n:Int)(l:Bool)(d Y:Int):Int:=if iw y n l d Y=0 then Cal.ofN (Cal.leap Y) (dM y n l d Y)else 0
def tL(y n:Int)(l:Bool)(d Y:Int):Bool:=if iw y n l d Y=0 then Cal.ofL (Cal.leap Y) (dM y n l d Y)else false
def tD(y n:Int)(l:Bool)(d Y:Int):Int:=if iw y n l d Y=0 then dD y n l d Y else 0
theorem uS{y n d Y:Int}{l:Bool}(h:iw y n l d Y=0):D10.aK y n l d=0/\1<=Y/\Y<=9999/\y<Y:=by
 unfold iw at h
 by_cases c:D10.aK y n l d=0
 ·rw [if_pos c]at h
  by_cases c2:Y<1∨9999<Y
  ·rw [if_pos c2]at h;omega
  ·rw [if_neg c2]at h
   by_cases c3:Y<=y
   ·rw [if_pos c3]at h;omega
   ·exact⟨c,vO,vO,vO⟩
 ·rw [if_neg c]at h;exact absurd h c
theorem LQ{Y m d:Int}(h1:1<=Y)(h2:Y<=9999)(m1:1<=m)(m2:m<=Cal.most (Cal.leap Y))(d1:1<=d)(d2:d<=30)(hl:d<=D10.dLen Y m∨m<Cal.most (Cal.leap Y)):D10.Valid Y (cM Y m d) (cD Y m d)/\D10.bA Y (cM Y m d) (cD Y m d)=D10.bA Y m 1+d-1:=by
 have hb:=D10.j5 Y m h1 h2 m1 m2
 unfold cM cD
 by_cases c:d<=D10.dLen Y m
 ·rw [if_pos c,if_pos c]
  exact⟨⟨h1,h2,m1,m2,d1,c⟩,by unfold D10.bA;omega⟩
 ·rw [if_neg c,if_neg c]
  have hm:m<Cal.most (Cal.leap Y):=vO
  have hb2:=D10.j5 Y (m+1) h1 h2 vO vO
  have ha:=D10.TW Y m h1 h2 m1 vO
  exact⟨⟨h1,h2,vO,vO,vO,vO⟩,by unfold D10.bA;omega⟩
theorem Zb(Y:Int):1<=Cal.most (Cal.leap Y):=by unfold Cal.most;split <;> omega
theorem aao(Y:Int)(h1:1<=Y)(h2:Y<=9999):D10.dLen Y (Cal.most (Cal.leap Y))=29:=by
 obtain⟨j,x,e1,e2,e3,_⟩:=D10.dY Y _ h1 h2 (Zb Y) (Int.le_refl _)
 rw [e3]
 unfold D10.ls at e2
 cases hl:Cal.leap Y with
 |true=>
  rw [hl]at e1 e2
  have ej:j=12:=by simp [Cal.most]at e1;omega
  subst ej
  simp [lens]at e2
  omega
 |false=>
  rw [hl]at e1 e2
  have ej:j=11:=by simp [Cal.most]at e1;omega
  subst ej
  simp [lens]at e2
  omega
theorem jC{lp:Bool}{n:Int}{l:Bool}(h:Cal.dH lp n l=true):Cal.right n l=true:=by unfold Cal.dH at h;simp only [Bool.and_eq_true]at h;exact h.1
theorem XF{Y n:Int}{l:Bool}(h1:1<=Y)(h2:Y<=9999)(hr:Cal.right n l=true):S15.bT Y n l 0=0/\Cal.dH (Cal.leap Y) (S15.lD Y n l 0) (S15.lu Y n l 0)=true/\
  ((S15.lD Y n l 0=n/\S15.lu Y n l 0=l/\Cal.dH (Cal.leap Y) n l=true)∨(S15.lD Y n l 0=6/\S15.lu Y n l 0=false/\n=5/\l=true/\Cal.leap Y=false)):=by
 have m0:S15.mode 0=true:=rfl
 by_cases hp:Cal.dH (Cal.leap Y) n l=true
 ·have e:S15.bT Y n l 0=0:=by unfold S15.bT;rw [m0,Cal.dN Y h1 h2,hr,hp];rfl
  have en:S15.lD Y n l 0=n:=by unfold S15.lD;rw [if_pos e,if_pos hp]
  have el:S15.lu Y n l 0=l:=by unfold S15.lu;rw [if_pos e,if_pos hp]
  exact⟨e,by rw [en,el];exact hp,.inl ⟨en,el,hp⟩⟩
 ·have e:S15.bT Y n l 0=0:=by
   unfold S15.bT;rw [m0,Cal.dN Y h1 h2,hr,if_pos rfl,if_pos rfl,if_pos rfl,if_neg hp];rfl
  have en:S15.lD Y n l 0=6:=by unfold S15.lD;rw [if_pos e,if_neg hp]
  have el:S15.lu Y n l 0=false:=by unfold S15.lu;rw [if_pos e,if_neg hp]
  have hh:l=true/\Cal.leap Y=false:=by
   unfold Cal.dH at hp
   rw [hr]at hp
   cases l <;> cases hy:Cal.leap Y <;> simp [hy]at hp⊢
  obtain⟨rfl,hy⟩:=hh
  have hn:n=5:=by
   rcases iM n true hr with ⟨_,_,c⟩|⟨c,_⟩
   ·cases c
   ·exact c
  exact⟨e,by rw [en,el,hy];decide,.inr ⟨en,el,hn,rfl,hy⟩⟩
theorem MG{y n d Y:Int}{l:Bool}(h:iw y n l d Y=0):1<=m0 Y n l/\m0 Y n l<=Cal.most (Cal.leap Y)/\1<=d/\d<=30/\(d<=D10.dLen Y (m0 Y n l)∨m0 Y n l<Cal.most (Cal.leap Y)):=by
 obtain⟨hd,h1,h2,hlt⟩:=uS h
 obtain⟨hv,hp⟩:=D10.bq hd
 obtain⟨_,hq,hi⟩:=XF h1 h2 (jC hp)
 obtain⟨p1,p2,_,_⟩:=D10.iF _ _ _ hq
 have hb:=D10.j5 y _ hv.1 hv.2.1 hv.2.2.1 hv.2.2.2.1
 have d1:=hv.2.2.2.2.1
 have d2:=hv.2.2.2.2.2
 refine⟨p1,p2,d1,vO, ?_⟩
 by_cases c:m0 Y n l=Cal.most (Cal.leap Y)
 ·refine .inl ?_
  have hn:=(S15.Ic _ _ _ hq).2 c
  rcases hi with ⟨e1,_,_⟩|⟨e1,_⟩
  ·have h12:=(S15.Ic _ _ _ hp).1 (e1.symm.trans hn)
   rw [h12,aao y hv.1 hv.2.1]at d2
   have:=D10.j5 Y _ h1 h2 p1 p2
   unfold m0;omega
  ·omega
 ·refine .inr ?_
  have:m0 Y n l<=Cal.most (Cal.leap Y):=p2
  omega
theorem WS{y n d Y:Int}{l:Bool}(h:iw y n l d Y=0):D10.Valid Y (cM Y (m0 Y n l) d) (cD Y (m0 Y n l) d)/\D10.bA Y (cM Y (m0 Y n l) d) (cD Y (m0 Y n l) d)=D10.bA Y (m0 Y n l) 1+d-1:=by
 obtain⟨_,h1,h2,_⟩:=uS h
 obtain⟨a,b,c,e,f⟩:=MG h
 exact LQ h1 h2 a b c e f
theorem Wi{y n d Y:Int}{l:Bool}(h:iw y n l d Y=0)(hk:k3 y n Y=true):Cal.leap Y=true/\D10.Valid Y (cM Y 6 d) (cD Y 6 d)/\D10.bA Y (cM Y 6 d) (cD Y 6 d)=D10.bA Y 6 1+d-1:=by
 obtain⟨_,h1,h2,_⟩:=uS h
 obtain⟨_,_,c,e,_⟩:=MG h
 unfold k3 at hk
 simp only [Bool.and_eq_true,beq_iff_eq]at hk
 have hm:Cal.most (Cal.leap Y)=13:=by rw [hk.2.2];rfl
 exact⟨hk.2.2,LQ h1 h2 vO vO c e (.inr vO)⟩
theorem Mq{n:Int}{l lp:Bool}(hr:Cal.right n l=true)(hn:n=2∨n=3)(Y:Int):l=false/\Cal.dH (Cal.leap Y) n l=true/\Cal.plV (Cal.leap Y) n l=n:=by
 have hl:l=false:=by
  rcases iM n l hr with ⟨_,_,c⟩|⟨c,_⟩
  ·exact c
  ·omega
 subst hl
 refine⟨rfl,by unfold Cal.dH;rw [hr];cases Cal.leap Y <;> rfl, ?_⟩
 rcases hn with rfl|rfl <;> cases Cal.leap Y <;> decide
theorem UG{y n d:Int}{l:Bool}(h:k1 y n l d=true):d=30/\(n=2∨n=3)/\D10.aY (y+1) n l<30:=by
 unfold k1 at h
 simpa [Bool.and_eq_true]using h
theorem acz:∀ (xs:List Int) (j:Nat),(∀x∈xs,29<=x/\x<=30)->j<=xs.length->29*(j:Int)<=(xs.take j).sum
 |xs,0,_,_=>by simp
 | [],j+1,_,h=>by simp at h
 |x :: xs,j+1,hx,h=>by
  have ih:=acz xs j (fun z hz=>hx z (List.mem_cons_of_mem _ hz)) (by simpa using h)
  have:=hx x (List.mem_cons_self ..)
  rw [List.take_succ_cons,List.sum_cons]
  omega
theorem acv(Y m:Int)(h1:1<=Y)(h2:Y<=9999)(m1:1<=m)(m2:m<=Cal.most (Cal.leap Y)):29*(m-1)<=D10.jr Y m/\D10.jr Y m<=30*(m-1):=by
 obtain⟨j,x,e1,e2,e3,e4,_⟩:=D10.dY Y m h1 h2 m1 m2
 have hj:=(List.getElem?_eq_some_iff.1 e2).1
 have a:=acz (D10.ls Y) j (D10.acD Y) vO
 have b:=(ME (D10.ls Y) (D10.acD Y) j).2
 rw [e4]
 omega
theorem acI(Y:Int)(h1:1<=Y)(h2:Y<=9999):353<=Cal.first (Y+1)-Cal.first Y/\(Cal.leap Y=true->383<=Cal.first (Y+1)-Cal.first Y):=by
 obtain⟨i,hi,_,hk,hl⟩:=R6 Y h1 h2
 have hs:=D10.aag i hi
 obtain⟨_,e,_⟩:=D10.Bo Y h1 h2
 have h0:0<=kV i:=by unfold kV;split <;> omega
 unfold D10.ls at e
 rw [hk,hl,hs]at e
 unfold Cal.long at e
 rw [←hl]at e
 refine⟨by split at e <;> omega,fun h=> ?_⟩
 rw [if_pos h]at e
 omega
theorem later{Y Z p q u v:Int}(h1:1<=Y)(hlt:Y<Z)(h2:Z<=9999)(p1:1<=p)(p2:p<=Cal.most (Cal.leap Y))(q1:1<=q)(q2:q<=Cal.most (Cal.leap Z))(hv:u<=v+1)(hpq:p<=q∨(Cal.leap Y=true/\p<=q+1)):
  320<=(Cal.first Z+D10.jr Z q+v-1)-(Cal.first Y+D10.jr Y p+u-1):=by
 obtain⟨g1,g2⟩:=acI Y h1 vO
 have hm:=fC (Y+1) Z vO vO vO
 obtain⟨a1,a2⟩:=acv Y p h1 vO p1 p2
 obtain⟨b1,b2⟩:=acv Z q vO h2 q1 q2
 have p13:p<=13:=by unfold Cal.most at p2;split at p2 <;> omega
 rcases hpq with c|⟨c1,c2⟩
 ·by_cases hl:Cal.leap Y=true
  ·have:=g2 hl;omega
  ·have:p<=12:=by unfold Cal.most at p2;rw [if_neg hl]at p2;exact p2
   omega
 ·have:=g2 c1;omega
end A18
end
section
open Go.ChangeShapes Go.WideShapes Go.ChangeAt Go.RowKit
theorem Gf(y n:Int)(l:Bool)(d Y:Int)(hy:I64 y)(hY:I64 Y)(w:World)(hT:Tab w 6 kevCells)(hL:Tab w 4 lenCells)(h0:¬ D10.aK y n l d=0):
  vB 40 #[.agg #[y,n,l,d],Y] w (.int .i64 (D10.aK y n l d)):=by
 have HC:=Lib.hid (fun w hT hL=>je y n l d w hy hT hL)
 have h1:(D10.aK y n l d !=0)=true:=by simpa using h0
 clear h0
 generalize D10.aK y n l d=de at*
 go_enter (vF Tryz.func40),Tryz.ntmps40
 go_wp2_with fail
 refine vX (HC.out _ (Tab.below hT bel) (Tab.below hL bel)) fun w1 hb1 hz1 hc1 hf1=>?_
 try simp at hz1
 have hs1x0:w.1.size<w1.1.size:=vO
 obtain⟨g1x0,g1x1,g1x2,g1x3⟩:=dO (B:=w.1.size) (a:= .int .i64 y) (b:= .int .i64 n) (c:= .bool l) (d:= .int .i64 d) hc1
 go_wp2_with fail
 go_ret
 refine⟨by first|rfl|(simp [*];done), ?_⟩
 exact bel
theorem jm:(∀(y n:Int)(l:Bool)(d Y:Int)(hy:I64 y)(hY:I64 Y)(w:World)(hT:Tab w 6 kevCells)(hL:Tab w 4 lenCells)(h0:D10.aK y n l d=0)(h:Y<1),vB 40 #[.agg #[y,n,l,d],Y] w (.int .i64 (2)))/\(∀(y n:Int)(l:Bool)(d Y:Int)(hy:I64 y)(hY:I64 Y)(w:World)(hT:Tab w 6 kevCells)(hL:Tab w 4 lenCells)(h0:D10.aK y n l d=0)(h1:1<=Y)(h:9999<Y),vB 40 #[.agg #[y,n,l,d],Y] w (.int .i64 (2)))/\(∀(y n:Int)(l:Bool)(d Y:Int)(hy:I64 y)(hY:I64 Y)(w:World)(hT:Tab w 6 kevCells)(hL:Tab w 4 lenCells)(h0:D10.aK y n l d=0)(h1:1<=Y)(h2:Y<=9999)(h:Y<=y),vB 40 #[.agg #[y,n,l,d],Y] w (.int .i64 (1)))/\(∀(y n:Int)(l:Bool)(d Y:Int)(hy:I64 y)(hY:I64 Y)(w:World)(hT:Tab w 6 kevCells)(hL:Tab w 4 lenCells)(h0:D10.aK y n l d=0)(h1:1<=Y)(h2:Y<=9999)(h:y<Y),vB 40 #[.agg #[y,n,l,d],Y] w (.int .i64 (0))):=by
 refine⟨@fun y n l d Y hy hY w hT hL h0 h=> ?_,@fun y n l d Y hy hY w hT hL h0 h1 h=> ?_,@fun y n l d Y hy hY w hT hL h0 h1 h2 h=> ?_,@fun y n l d Y hy hY w hT hL h0 h1 h2 h=> ?_⟩
 all_goals(
 have HC:=Lib.hid (fun w hT hL=>je y n l d w hy hT hL)
 rw [h0]at HC
 obtain⟨y1,y2⟩:=hy
 obtain⟨Y1,Y2⟩:=hY
 clear h0
 go_enter (vF Tryz.func40),Tryz.ntmps40
 go_wp2_with fail
 refine vX (HC.out _ (Tab.below hT bel) (Tab.below hL bel)) fun w1 hb1 hz1 hc1 hf1=>?_
 try simp at hz1
 have hs1x0:w.1.size<w1.1.size:=vO
 obtain⟨g1x0,g1x1,g1x2,g1x3⟩:=dO (B:=w.1.size) (a:= .int .i64 y) (b:= .int .i64 n) (c:= .bool l) (d:= .int .i64 d) hc1
 go_wp2_with fail
 go_ret
 refine⟨by first|rfl|(simp [*];done), ?_⟩
 exact bel
 )
def Gm:=jm.1
def DK:=jm.2.1
def FV:=jm.2.2.1
def JI:=jm.2.2.2
theorem dI(y n:Int)(l:Bool)(d Y:Int)(hy:I64 y)(hY:I64 Y)(w:World)(hT:Tab w 6 kevCells)(hL:Tab w 4 lenCells):
  vB 40 #[.agg #[y,n,l,d],Y] w (.int .i64 (A18.iw y n l d Y)):=by
 unfold A18.iw
 by_cases h0:D10.aK y n l d=0
 ·rw [if_pos h0]
  by_cases h1:Y<1∨9999<Y
  ·rw [if_pos h1]
   by_cases c:Y<1
   ·exact Gm y n l d Y hy hY w hT hL h0 c
   ·exact DK y n l d Y hy hY w hT hL h0 vO vO
  ·rw [if_neg h1]
   by_cases h2:Y<=y
   ·rw [if_pos h2];exact FV y n l d Y hy hY w hT hL h0 vO vO h2
   ·rw [if_neg h2];exact JI y n l d Y hy hY w hT hL h0 vO vO vO
 ·rw [if_neg h0];exact Gf y n l d Y hy hY w hT hL h0
theorem lK(y n:Int)(l:Bool)(hy:I64 y)(w:World)(hT:Tab w 6 kevCells)(hL:Tab w 4 lenCells):
  vB 44 #[y,.agg #[n,l]] w (.int .i64 (D10.aY y n l)):=by
 have HL:=Lib.hid (fun w hT hL=>kF y n l w hy hT hL)
 generalize D10.aY y n l=lv at*
 generalize D10.bO y n l=le at*
 go_enter (vF Tryz.func44),Tryz.ntmps44
 go_wp2_with fail
 refine vX (HL.out _ (Tab.below hT bel) (Tab.below hL bel)) fun w1 hb1 hz1 hc1 hf1=>?_
 try simp at hz1
 go_wp2_with fail
 go_ret
 refine⟨by first|rfl|(simp [*];done), ?_⟩
 exact bel
theorem Ak(y n:Int)(l:Bool)(e cm cd:Int)(hy:I64 y)(w:World)(hT:Tab w 6 kevCells)(hL:Tab w 4 lenCells)(h0:D10.aK y n l 1=0)(he:1<=e/\e<=30)(hv:D10.Valid y cm cd)(hD:D10.aM y n l 1+e-1=D10.bA y cm cd):
  vB 42 #[y,.agg #[n,l],e] w (.tuple #[.agg #[y,Cal.ofN (Cal.leap y) cm,Cal.ofL (Cal.leap y) cm,cd],(0:Int)]):=by
 obtain⟨e1,e2⟩:=he
 have DD:=(D10.qg y n l 1 h0).2
 obtain⟨D1,D2⟩:=DD
 have HT:=Lib.hid (fun w hT hL=>lW y n l 1 w hy hT hL)
 have HF:=Lib.hid (fun w hT hL=>iE y cm cd w hT hL hv)
 rw [←hD]at HF
 rw [h0]at HT
 clear h0 hD hv
 generalize D10.aM y n l 1=D at*
 generalize Cal.ofN (Cal.leap y) cm=rn at*
 generalize Cal.ofL (Cal.leap y) cm=rl at*
 go_enter (vF Tryz.func42),Tryz.ntmps42
 go_wp2_with fail
 refine vX (HT.out _ (Tab.below hT bel) (Tab.below hL bel)) fun w1 hb1 hz1 hc1 hf1=>?_
 try simp at hz1
 have hs1x0:w.1.size<w1.1.size:=vO
 have hs1x1:(w.1.size+1)<w1.1.size:=vO
 have g1x0:w1.cell? ⟨w.1.size,0,none⟩=some (n:vV):=cel hc1
 have g1x1:w1.cell? ⟨w.1.size,1,none⟩=some (.bool l):=cel hc1
 obtain⟨g1x2,g1x3,g1x4,g1x5⟩:=dO (B:=(w.1.size+1)) (a:= .int .i64 0) (b:= .int .i64 0) (c:= .bool false) (d:= .int .i64 0) hc1
 go_wp2_with fail
 refine vX (HF.out _ (Tab.below hT bel) (Tab.below hL bel)) fun w2 hb2 hz2 hc2 hf2=>?_
 try simp at hz2
 have hs2x0:(w.1.size+1)<w2.1.size:=vO
 obtain⟨g2x0,g2x1,g2x2,g2x3⟩:=dO (B:=(w.1.size+1)) (a:= .int .i64 0) (b:= .int .i64 0) (c:= .bool false) (d:= .int .i64 0) hc2
 go_wp2_with fail
 refine bodyPost_ret (v:= .tuple #[.agg #[y,rn,rl,cd],(0:Int)]) (by simp [results,Tryz.results42,go_sem, *]) rfl ⟨rfl, ?_⟩
 exact bel
theorem FZ(y n:Int)(l:Bool)(d Y:Int)(hy:I64 y)(hd:I64 d)(hY:I64 Y)(w:World)(hT:Tab w 6 kevCells)(hL:Tab w 4 lenCells)(h0:¬ A18.iw y n l d Y=0):
  vB 20 #[.agg #[y,n,l,d],Y] w (.tuple #[.agg #[(0:Int),(0:Int),false,(0:Int)],A18.iw y n l d Y]):=by
 have HC:=Lib.hid (fun w hT hL=>dI y n l d Y hy hY w hT hL)
 have h1:(A18.iw y n l d Y !=0)=true:=by simpa using h0
 clear h0
 generalize A18.iw y n l d Y=ce at*
 go_enter (vF Tryz.func20),Tryz.ntmps20
 go_wp2_with fail
 refine vX (HC.out _ (Tab.below hT bel) (Tab.below hL bel)) fun w1 hb1 hz1 hc1 hf1=>?_
 try simp at hz1
 have hs1x0:w.1.size<w1.1.size:=vO
 have hs1x1:(w.1.size+1)<w1.1.size:=vO
 obtain⟨g1x0,g1x1,g1x2,g1x3⟩:=dO (B:=w.1.size) (a:= .int .i64 y) (b:= .int .i64 n) (c:= .bool l) (d:= .int .i64 d) hc1
 obtain⟨g1x4,g1x5,g1x6,g1x7⟩:=dO (B:=(w.1.size+1)) (a:= .int .i64 0) (b:= .int .i64 0) (c:= .bool false) (d:= .int .i64 0) hc1
 go_wp2_with fail
 refine bodyPost_ret (v:= .tuple #[.agg #[(0:Int),(0:Int),false,(0:Int)],ce]) (by simp [results,Tryz.results20,go_sem, *]) rfl ⟨rfl, ?_⟩
 exact bel
theorem Iw(y n:Int)(l:Bool)(d Y:Int)(hy:I64 y)(hd:I64 d)(hY:I64 Y)(w:World)(hT:Tab w 6 kevCells)(hL:Tab w 4 lenCells)(h0:A18.iw y n l d Y=0):
  vB 20 #[.agg #[y,n,l,d],Y] w (.tuple #[.agg #[Y,Cal.ofN (Cal.leap Y) (A18.cM Y (A18.m0 Y n l) d),Cal.ofL (Cal.leap Y) (A18.cM Y (A18.m0 Y n l) d),A18.cD Y (A18.m0 Y n l) d],(0:Int)]):=by
 have HC:=Lib.hid (fun w hT hL=>dI y n l d Y hy hY w hT hL)
 obtain⟨hde,h1,h2,hlt⟩:=A18.uS h0
 obtain⟨hvd,hp⟩:=D10.bq hde
 have hr:=A18.jC hp
 have HI:=Lib.hid (fun w=>IW Y n l 0 w)
 obtain⟨hi,hq,_⟩:=A18.XF h1 h2 hr
 obtain⟨_,_,d1,d2,_⟩:=A18.MG h0
 obtain⟨hv,hD⟩:=A18.WS h0
 have hm:=D10.iF _ _ _ hq
 have hb:=D10.j5 Y (A18.m0 Y n l) h1 h2 hm.1 hm.2.1
 have v1:D10.Valid Y (A18.m0 Y n l) 1:=⟨h1,h2,hm.1,hm.2.1,vO,vO⟩
 obtain⟨q0,qD⟩:=D10.Bp v1
 rw [show Cal.ofN (Cal.leap Y) (A18.m0 Y n l)=S15.lD Y n l 0 from hm.2.2.1,show Cal.ofL (Cal.leap Y) (A18.m0 Y n l)=S15.lu Y n l 0 from hm.2.2.2]at q0 qD
 rw [←qD]at hD
 have HN:=Lib.hid (fun w hT hL=>Ak Y (S15.lD Y n l 0) (S15.lu Y n l 0) d (A18.cM Y (A18.m0 Y n l) d) (A18.cD Y (A18.m0 Y n l) d) hY w hT hL q0 ⟨d1,d2⟩ hv hD.symm)
 rw [h0]at HC
 rw [hi]at HI
 clear hi hq hv hD hm hb v1 q0 qD hvd hp hr hde h0
 generalize S15.lD Y n l 0=n1 at*
 generalize S15.lu Y n l 0=l1 at*
 generalize Cal.ofN (Cal.leap Y) (A18.cM Y (A18.m0 Y n l) d)=rn at*
 generalize Cal.ofL (Cal.leap Y) (A18.cM Y (A18.m0 Y n l) d)=rl at*
 generalize A18.cD Y (A18.m0 Y n l) d=rd at*
 go_enter (vF Tryz.func20),Tryz.ntmps20
 go_wp2_with fail
 refine vX (HC.out _ (Tab.below hT bel) (Tab.below hL bel)) fun w1 hb1 hz1 hc1 hf1=>?_
 try simp at hz1
 have hs1x0:w.1.size<w1.1.size:=vO
 have hs1x1:(w.1.size+1)<w1.1.size:=vO
 obtain⟨g1x0,g1x1,g1x2,g1x3⟩:=dO (B:=w.1.size) (a:= .int .i64 y) (b:= .int .i64 n) (c:= .bool l) (d:= .int .i64 d) hc1
 obtain⟨g1x4,g1x5,g1x6,g1x7⟩:=dO (B:=(w.1.size+1)) (a:= .int .i64 0) (b:= .int .i64 0) (c:= .bool false) (d:= .int .i64 0) hc1
 go_wp2_with fail
 refine vX (HI.out _) fun w2 hb2 hz2 hc2 hf2=>?_
 try simp at hz2
 have hs2x0:w.1.size<w2.1.size:=vO
 have hs2x1:(w.1.size+1)<w2.1.size:=vO
 obtain⟨g2x0,g2x1,g2x2,g2x3⟩:=dO (B:=w.1.size) (a:= .int .i64 y) (b:= .int .i64 n) (c:= .bool l) (d:= .int .i64 d) hc2
 obtain⟨g2x4,g2x5,g2x6,g2x7⟩:=dO (B:=(w.1.size+1)) (a:= .int .i64 0) (b:= .int .i64 0) (c:= .bool false) (d:= .int .i64 0) hc2
 go_wp2_with fail
 refine vX (HN.out _ (Tab.below hT bel) (Tab.below hL bel)) fun w3 hb3 hz3 hc3 hf3=>?_
 try simp at hz3
 have hs3x0:(w.1.size+1)<w3.1.size:=vO
 obtain⟨g3x0,g3x1,g3x2,g3x3⟩:=dO (B:=(w.1.size+1)) (a:= .int .i64 0) (b:= .int .i64 0) (c:= .bool false) (d:= .int .i64 0) hc3
 go_wp2_with fail
 refine bodyPost_ret (v:= .tuple #[.agg #[Y,rn,rl,rd],(0:Int)]) (by simp [results,Tryz.results20,go_sem, *]) rfl ⟨rfl, ?_⟩
 exact bel
theorem jy(y n:Int)(l:Bool)(d Y:Int)(hy:I64 y)(hd:I64 d)(hY:I64 Y)(w:World)(hT:Tab w 6 kevCells)(hL:Tab w 4 lenCells):
  vB 20 #[.agg #[y,n,l,d],Y] w (.tuple #[.agg #[A18.bY y n l d Y,A18.bN y n l d Y,A18.bL y n l d Y,A18.bD y n l d Y],A18.iw y n l d Y]):=by
 unfold A18.bY A18.bN A18.bL A18.bD
 by_cases h0:A18.iw y n l d Y=0
 ·rw [if_pos h0,if_pos h0,if_pos h0,if_pos h0,h0];exact Iw y n l d Y hy hd hY w hT hL h0
 ·rw [if_neg h0,if_neg h0,if_neg h0,if_neg h0];exact FZ y n l d Y hy hd hY w hT hL h0
theorem Gv(y n:Int)(l:Bool)(d Y:Int)(hy:I64 y)(hd:I64 d)(hY:I64 Y)(w:World)(hT:Tab w 6 kevCells)(hL:Tab w 4 lenCells)(h0:¬ A18.iw y n l d Y=0):
  vB 21 #[.agg #[y,n,l,d],Y] w (.tuple #[.agg #[(0:Int),(0:Int),false,(0:Int)],A18.iw y n l d Y]):=by
 have HC:=Lib.hid (fun w hT hL=>dI y n l d Y hy hY w hT hL)
 have h1:(A18.iw y n l d Y !=0)=true:=by simpa using h0
 clear h0
 generalize A18.iw y n l d Y=ce at*
 go_enter (vF Tryz.func21),Tryz.ntmps21
 go_wp2_with fail
 refine vX (HC.out _ (Tab.below hT bel) (Tab.below hL bel)) fun w1 hb1 hz1 hc1 hf1=>?_
 try simp at hz1
 have hs1x0:w.1.size<w1.1.size:=vO
 have hs1x1:(w.1.size+1)<w1.1.size:=vO
 obtain⟨g1x0,g1x1,g1x2,g1x3⟩:=dO (B:=w.1.size) (a:= .int .i64 y) (b:= .int .i64 n) (c:= .bool l) (d:= .int .i64 d) hc1
 obtain⟨g1x4,g1x5,g1x6,g1x7⟩:=dO (B:=(w.1.size+1)) (a:= .int .i64 0) (b:= .int .i64 0) (c:= .bool false) (d:= .int .i64 0) hc1
 go_wp2_with fail
 refine bodyPost_ret (v:= .tuple #[.agg #[(0:Int),(0:Int),false,(0:Int)],ce]) (by simp [results,Tryz.results21,go_sem, *]) rfl ⟨rfl, ?_⟩
 exact bel
end
section
open Go.ChangeShapes Go.WideShapes Go.ChangeAt Go.RowKit
namespace A18
theorem aa7{y n d Y:Int}{l:Bool}(h:iw y n l d Y=0)(c:k1 y n l d=true):tN y n l d Y=n/\tL y n l d Y=l/\tD y n l d Y=D10.aY Y n l:=by
 obtain⟨hd,h1,h2,_⟩:=uS h
 obtain⟨_,hp⟩:=D10.bq hd
 obtain⟨_,hn,_⟩:=UG c
 obtain⟨_,q1,_⟩:=Mq (lp:=true) (jC hp) hn Y
 obtain⟨_,_,a,b⟩:=D10.iF _ _ _ q1
 unfold tN tL tD dM dD
 rw [if_pos h,if_pos h,if_pos h,if_pos c,if_pos c]
 exact⟨a,b,rfl⟩
theorem ab1{y n d Y:Int}{l:Bool}(h:iw y n l d Y=0)(c1:¬ k1 y n l d=true)(c:k2 l d Y=true):tN y n l d Y=5/\tL y n l d Y=false/\tD y n l d Y=30:=by
 unfold tN tL tD dM dD
 rw [if_pos h,if_pos h,if_pos h,if_neg c1,if_neg c1,if_pos c,if_pos c]
 cases Cal.leap Y <;> decide
theorem abx{y n d Y:Int}{l:Bool}(h:iw y n l d Y=0)(c1:¬ k1 y n l d=true)(c2:¬ k2 l d Y=true)(c:k3 y n Y=true):tN y n l d Y=Cal.ofN (Cal.leap Y) (cM Y 6 d)/\tL y n l d Y=Cal.ofL (Cal.leap Y) (cM Y 6 d)/\tD y n l d Y=cD Y 6 d:=by
 unfold tN tL tD dM dD
 rw [if_pos h,if_pos h,if_pos h,if_neg c1,if_neg c1,if_neg c2,if_neg c2,if_pos c,if_pos c]
 exact⟨rfl,rfl,rfl⟩
theorem dth_b{y n d Y:Int}{l:Bool}(h:iw y n l d Y=0)(c1:¬ k1 y n l d=true)(c2:¬ k2 l d Y=true)(c3:¬ k3 y n Y=true):tN y n l d Y=bN y n l d Y/\tL y n l d Y=bL y n l d Y/\tD y n l d Y=bD y n l d Y:=by
 unfold tN tL tD dM dD bN bL bD
 simp [h,c1,c2,c3]
theorem VH {y d:Int} {l:Bool} (h:D10.aK y 6 l d=0):d<=29:=by
 obtain⟨hv,hp⟩:=D10.bq h
 have hl:l=false:=by
  rcases iM 6 l (jC hp)with ⟨_,_,c⟩|⟨c,_⟩
  ·exact c
  ·omega
 subst hl
 obtain⟨a,b,c,e,f,g⟩:=hv
 obtain⟨j,x,e1,e2,e3,_⟩:=D10.dY y _ a b c e
 rw [e3]at g
 unfold D10.ls at e2
 cases hy:Cal.leap y with
 |true=>
  rw [hy]at e1 e2
  have : j = 6 := by have:Cal.plV true 6 false=7:=vD
                     omega
  subst this
  simp [lens]at e2
  omega
 |false=>
  rw [hy]at e1 e2
  have : j = 5 := by have:Cal.plV false 6 false=6:=vD
                     omega
  subst this
  simp [lens]at e2
  omega
end A18
theorem qO:(∀(y:Int)(Y:Int)(hy:I64 y)(hY:I64 Y)(w:World)(hT:Tab w 6 kevCells)(hL:Tab w 4 lenCells)(h0:A18.iw y 2 false 30 Y=0)(hl:(decide (D10.aY (y+1) 2 false<30))=true),vB 21 #[.agg #[y,(2:Int),false,(30:Int)],Y] w (.tuple #[.agg #[Y,(2:Int),false,D10.aY Y 2 false],(0:Int)]))/\(∀(y:Int)(Y:Int)(hy:I64 y)(hY:I64 Y)(w:World)(hT:Tab w 6 kevCells)(hL:Tab w 4 lenCells)(h0:A18.iw y 3 false 30 Y=0)(hl:(decide (D10.aY (y+1) 3 false<30))=true),vB 21 #[.agg #[y,(3:Int),false,(30:Int)],Y] w (.tuple #[.agg #[Y,(3:Int),false,D10.aY Y 3 false],(0:Int)])):=by
 refine⟨@fun y Y hy hY w hT hL h0 hl=>(fun(k90:Nat)=> ?_) 0,@fun y Y hy hY w hT hL h0 hl=> ?_⟩
 all_goals(
 first|(have _:=k90;have HC:=Lib.hid (fun w hT hL=>dI y 2 false 30 Y hy hY w hT hL))|(have HC:=Lib.hid (fun w hT hL=>dI y 3 false 30 Y hy hY w hT hL))
 obtain⟨hde,h1,h2,hlt⟩:=A18.uS h0
 obtain⟨hvd,hp⟩:=D10.bq hde
 obtain⟨b1,b2⟩:=(⟨hvd.1,hvd.2.1⟩:1<=y/\y<=9999)
 rw [h0]at HC
 have HW:=Lib.hid (fun w=>aN y w vO vO)
 have HV:=Lib.hid (fun w=>aN Y w vO vO)
 first|(have _:=k90;have HD:=Lib.hid (fun w hT hL=>lK (y+1) 2 false ⟨vO,vO⟩ w hT hL))|(have HD:=Lib.hid (fun w hT hL=>lK (y+1) 3 false ⟨vO,vO⟩ w hT hL))
 first|(have _:=k90;have HE:=Lib.hid (fun w hT hL=>lK Y 2 false hY w hT hL))|(have HE:=Lib.hid (fun w hT hL=>lK Y 3 false hY w hT hL))
 have y1:=hy.1
 clear hde hvd hp h0
 first|(have _:=k90;generalize D10.aY Y 2 false=rd at*)|(generalize D10.aY Y 3 false=rd at*)
 first|(have _:=k90;generalize D10.aY (y+1) 2 false=lv at*)|(generalize D10.aY (y+1) 3 false=lv at*)
 try generalize Cal.leap y=wl at*
 try generalize Cal.leap Y=il at*
 go_enter (vF Tryz.func21),Tryz.ntmps21
 go_wp2_with fail
 refine vX (HC.out _ (Tab.below hT bel) (Tab.below hL bel)) fun w1 hb1 hz1 hc1 hf1=>?_
 try simp at hz1
 have hs1x0:w.1.size<w1.1.size:=vO
 have hs1x1:(w.1.size+1)<w1.1.size:=vO
 first|(have _:=k90;obtain⟨g1x0,g1x1,g1x2,g1x3⟩:=dO (B:=w.1.size) (a:= .int .i64 y) (b:= .int .i64 2) (c:= .bool false) (d:= .int .i64 30) hc1)|(obtain⟨g1x0,g1x1,g1x2,g1x3⟩:=dO (B:=w.1.size) (a:= .int .i64 y) (b:= .int .i64 3) (c:= .bool false) (d:= .int .i64 30) hc1)
 obtain⟨g1x4,g1x5,g1x6,g1x7⟩:=dO (B:=(w.1.size+1)) (a:= .int .i64 0) (b:= .int .i64 0) (c:= .bool false) (d:= .int .i64 0) hc1
 go_wp2_with fail
 refine vW (HW.out _) ?_
 go_wp2_with fail
 refine vW (HV.out _) ?_
 go_wp2_with fail
 refine vX (HD.out _ (Tab.below hT bel) (Tab.below hL bel)) fun w2 hb2 hz2 hc2 hf2=>?_
 try simp at hz2
 have hs2x0:w.1.size<w2.1.size:=vO
 have hs2x1:(w.1.size+1)<w2.1.size:=vO
 first|(have _:=k90;obtain⟨g2x0,g2x1,g2x2,g2x3⟩:=dO (B:=w.1.size) (a:= .int .i64 y) (b:= .int .i64 2) (c:= .bool false) (d:= .int .i64 30) hc2)|(obtain⟨g2x0,g2x1,g2x2,g2x3⟩:=dO (B:=w.1.size) (a:= .int .i64 y) (b:= .int .i64 3) (c:= .bool false) (d:= .int .i64 30) hc2)
 obtain⟨g2x4,g2x5,g2x6,g2x7⟩:=dO (B:=(w.1.size+1)) (a:= .int .i64 0) (b:= .int .i64 0) (c:= .bool false) (d:= .int .i64 0) hc2
 go_wp2_with fail
 first|(have _:=k90;refine settle (fun W=>W.cell? ⟨w.1.size,0,none⟩=some (y:vV)/\W.cell? ⟨w.1.size,1,none⟩=some (.int .i64 2)/\W.cell? ⟨w.1.size,2,none⟩=some (.bool false)/\W.cell? ⟨w.1.size,3,none⟩=some (.int .i64 30)/\W.cell? ⟨(w.1.size+1),0,none⟩=some (.int .i64 0)/\W.cell? ⟨(w.1.size+1),1,none⟩=some (.int .i64 0)/\W.cell? ⟨(w.1.size+1),2,none⟩=some (.bool false)/\W.cell? ⟨(w.1.size+1),3,none⟩=some (.int .i64 0)/\w.1.size<W.1.size/\(w.1.size+1)<W.1.size/\W.frozen? ⟨(w.1.size+1),0,none⟩=false/\W.frozen? ⟨(w.1.size+1),1,none⟩=false/\W.frozen? ⟨(w.1.size+1),2,none⟩=false/\W.frozen? ⟨(w.1.size+1),3,none⟩=false/\Below w.1.size w W) ⟨?_, ?_, ?_, ?_, ?_, ?_, ?_, ?_, ?_, ?_, ?_, ?_, ?_, ?_, ?_⟩ ?_)|(refine settle (fun W=>W.cell? ⟨w.1.size,0,none⟩=some (y:vV)/\W.cell? ⟨w.1.size,1,none⟩=some (.int .i64 3)/\W.cell? ⟨w.1.size,2,none⟩=some (.bool false)/\W.cell? ⟨w.1.size,3,none⟩=some (.int .i64 30)/\W.cell? ⟨(w.1.size+1),0,none⟩=some (.int .i64 0)/\W.cell? ⟨(w.1.size+1),1,none⟩=some (.int .i64 0)/\W.cell? ⟨(w.1.size+1),2,none⟩=some (.bool false)/\W.cell? ⟨(w.1.size+1),3,none⟩=some (.int .i64 0)/\w.1.size<W.1.size/\(w.1.size+1)<W.1.size/\W.frozen? ⟨(w.1.size+1),0,none⟩=false/\W.frozen? ⟨(w.1.size+1),1,none⟩=false/\W.frozen? ⟨(w.1.size+1),2,none⟩=false/\W.frozen? ⟨(w.1.size+1),3,none⟩=false/\Below w.1.size w W) ⟨?_, ?_, ?_, ?_, ?_, ?_, ?_, ?_, ?_, ?_, ?_, ?_, ?_, ?_, ?_⟩ ?_)
 ·(first|(with_reducible assumption)|(simp [go_sem, *];done))
 ·(first|(with_reducible assumption)|(simp [go_sem, *];done))
 ·(first|(with_reducible assumption)|(simp [go_sem, *];done))
 ·(first|(with_reducible assumption)|(simp [go_sem, *];done))
 ·(first|(with_reducible assumption)|(simp [go_sem, *];done))
 ·(first|(with_reducible assumption)|(simp [go_sem, *];done))
 ·(first|(with_reducible assumption)|(simp [go_sem, *];done))
 ·(first|(with_reducible assumption)|(simp [go_sem, *];done))
 ·(first|(with_reducible assumption)|(simp;done)|(simp;omega)|omega)
 ·(first|(with_reducible assumption)|(simp;done)|(simp;omega)|omega)
 ·exact(hf2 _ _ (by first|omega|(simp;done)|(simp;omega))).trans ((hf1 _ _ (by first|omega|(simp;done)|(simp;omega))).trans vG)
 ·exact(hf2 _ _ (by first|omega|(simp;done)|(simp;omega))).trans ((hf1 _ _ (by first|omega|(simp;done)|(simp;omega))).trans vG)
 ·exact(hf2 _ _ (by first|omega|(simp;done)|(simp;omega))).trans ((hf1 _ _ (by first|omega|(simp;done)|(simp;omega))).trans vG)
 ·exact(hf2 _ _ (by first|omega|(simp;done)|(simp;omega))).trans ((hf1 _ _ (by first|omega|(simp;done)|(simp;omega))).trans vG)
 ·(exact bel)
 rintro W4 ⟨r4x0,r4x1,r4x2,r4x3,r4x4,r4x5,r4x6,r4x7,rs4x0,rs4x1,rf4x0,rf4x1,rf4x2,rf4x3,hB4⟩
 refine yN 8 vK vK (fun hall=> ?_)
 simp only [List.take_succ_cons,List.take_zero,List.drop_succ_cons,List.drop_zero]
 repeat(first|go_big_quiet_skip|(go_big_quiet_want;first|(refine ql1 _ _ _ rfl rfl ?_;apply Exists.intro;refine⟨?_, ?_⟩;assumption;go_simp;go_big_quiet_on)|(refine ql2 _ _ _ _ rfl rfl ?_;apply Exists.intro;apply Exists.intro;refine⟨?_, ?_, ?_⟩;assumption;assumption;go_simp;go_big_quiet_on)|(refine ql3 _ _ _ _ rfl rfl ?_;apply Exists.intro;apply Exists.intro;apply Exists.intro;refine⟨?_, ?_, ?_, ?_⟩;assumption;assumption;assumption;go_simp;go_big_quiet_on)|(refine ql4 _ _ _ _ rfl rfl ?_;apply Exists.intro;apply Exists.intro;apply Exists.intro;apply Exists.intro;refine⟨?_, ?_, ?_, ?_, ?_⟩;assumption;assumption;assumption;assumption;go_simp;go_big_quiet_on)|(go_big_quiet_op;first|go_big_quiet_on|(apply Exists.intro;refine⟨fun x hx=> ?_, ?_⟩;(first|(with_reducible exact dn hx (HE.out x (Tab.below hT (bt hB4 hx)) (Tab.below hL (bt hB4 hx))))|exact dn hx (HE.out x (Tab.below hT (bt hB4 hx)) (Tab.below hL (bt hB4 hx))));go_big_quiet_on))))
 refine wpQuiet_nil ?_
 clear hall
 intro w5 hw5
 obtain⟨hc5,hf5⟩:=aL hw5
 have hz5:=hw5.size
 have hB5:=bt hB4 hw5
 have g5x4:w5.cell? ⟨(w.1.size+1),0,none⟩=some (.int .i64 0):=(hc5 _ _ vO).trans (by with_reducible assumption)
 have g5x5:w5.cell? ⟨(w.1.size+1),1,none⟩=some (.int .i64 0):=(hc5 _ _ vO).trans (by with_reducible assumption)
 have g5x6:w5.cell? ⟨(w.1.size+1),2,none⟩=some (.bool false):=(hc5 _ _ vO).trans (by with_reducible assumption)
 have g5x7:w5.cell? ⟨(w.1.size+1),3,none⟩=some (.int .i64 0):=(hc5 _ _ vO).trans (by with_reducible assumption)
 have z5x0:w5.frozen? ⟨w.1.size+1,0,none⟩=false:=(hf5 _ _ vO).trans rf4x0
 have z5x1:w5.frozen? ⟨w.1.size+1,1,none⟩=false:=(hf5 _ _ vO).trans rf4x1
 have z5x2:w5.frozen? ⟨w.1.size+1,2,none⟩=false:=(hf5 _ _ vO).trans rf4x2
 have z5x3:w5.frozen? ⟨w.1.size+1,3,none⟩=false:=(hf5 _ _ vO).trans rf4x3
 go_wp2_with fail
 first|(have _:=k90;refine bodyPost_ret (v:= .tuple #[.agg #[Y,(2:Int),false,rd],(0:Int)]) (by simp [results,Tryz.results21,go_sem, *]) rfl ⟨rfl, ?_⟩)|(refine bodyPost_ret (v:= .tuple #[.agg #[Y,(3:Int),false,rd],(0:Int)]) (by simp [results,Tryz.results21,go_sem, *]) rfl ⟨rfl, ?_⟩)
 exact bel
 )
def Hw:=qO.1
def Jc:=qO.2
theorem qF:(∀(y:Int)(Y:Int)(hy:I64 y)(hY:I64 Y)(w:World)(hT:Tab w 6 kevCells)(hL:Tab w 4 lenCells)(h0:A18.iw y 2 false 30 Y=0)(hl:(decide (D10.aY (y+1) 2 false<30))=false),vB 21 #[.agg #[y,(2:Int),false,(30:Int)],Y] w (.tuple #[.agg #[A18.bY y 2 false 30 Y,A18.bN y 2 false 30 Y,A18.bL y 2 false 30 Y,A18.bD y 2 false 30 Y],(0:Int)]))/\(∀(y:Int)(Y:Int)(hy:I64 y)(hY:I64 Y)(w:World)(hT:Tab w 6 kevCells)(hL:Tab w 4 lenCells)(h0:A18.iw y 3 false 30 Y=0)(hl:(decide (D10.aY (y+1) 3 false<30))=false),vB 21 #[.agg #[y,(3:Int),false,(30:Int)],Y] w (.tuple #[.agg #[A18.bY y 3 false 30 Y,A18.bN y 3 false 30 Y,A18.bL y 3 false 30 Y,A18.bD y 3 false 30 Y],(0:Int)])):=by
 refine⟨@fun y Y hy hY w hT hL h0 hl=>(fun(k90:Nat)=> ?_) 0,@fun y Y hy hY w hT hL h0 hl=> ?_⟩
 all_goals(
 first|(have _:=k90;have HC:=Lib.hid (fun w hT hL=>dI y 2 false 30 Y hy hY w hT hL))|(have HC:=Lib.hid (fun w hT hL=>dI y 3 false 30 Y hy hY w hT hL))
 obtain⟨hde,h1,h2,hlt⟩:=A18.uS h0
 obtain⟨hvd,hp⟩:=D10.bq hde
 obtain⟨b1,b2⟩:=(⟨hvd.1,hvd.2.1⟩:1<=y/\y<=9999)
 rw [h0]at HC
 have HW:=Lib.hid (fun w=>aN y w vO vO)
 have HV:=Lib.hid (fun w=>aN Y w vO vO)
 first|(have _:=k90;have HD:=Lib.hid (fun w hT hL=>lK (y+1) 2 false ⟨vO,vO⟩ w hT hL))|(have HD:=Lib.hid (fun w hT hL=>lK (y+1) 3 false ⟨vO,vO⟩ w hT hL))
 first|(have _:=k90;have HB:=Lib.hid (fun w hT hL=>jy y 2 false 30 Y hy ⟨vO,vO⟩ hY w hT hL))|(have HB:=Lib.hid (fun w hT hL=>jy y 3 false 30 Y hy ⟨vO,vO⟩ hY w hT hL))
 rw [h0]at HB
 have y1:=hy.1
 clear hde hvd hp h0
 first|(have _:=k90;generalize A18.bY y 2 false 30 Y=ry at*)|(generalize A18.bY y 3 false 30 Y=ry at*)
 first|(have _:=k90;generalize A18.bN y 2 false 30 Y=rn at*)|(generalize A18.bN y 3 false 30 Y=rn at*)
 first|(have _:=k90;generalize A18.bL y 2 false 30 Y=rl at*)|(generalize A18.bL y 3 false 30 Y=rl at*)
 first|(have _:=k90;generalize A18.bD y 2 false 30 Y=rd at*)|(generalize A18.bD y 3 false 30 Y=rd at*)
 first|(have _:=k90;generalize D10.aY (y+1) 2 false=lv at*)|(generalize D10.aY (y+1) 3 false=lv at*)
 try generalize Cal.leap y=wl at*
 try generalize Cal.leap Y=il at*
 go_enter (vF Tryz.func21),Tryz.ntmps21
 go_wp2_with fail
 refine vX (HC.out _ (Tab.below hT bel) (Tab.below hL bel)) fun w1 hb1 hz1 hc1 hf1=>?_
 try simp at hz1
 have hs1x0:w.1.size<w1.1.size:=vO
 have hs1x1:(w.1.size+1)<w1.1.size:=vO
 first|(have _:=k90;obtain⟨g1x0,g1x1,g1x2,g1x3⟩:=dO (B:=w.1.size) (a:= .int .i64 y) (b:= .int .i64 2) (c:= .bool false) (d:= .int .i64 30) hc1)|(obtain⟨g1x0,g1x1,g1x2,g1x3⟩:=dO (B:=w.1.size) (a:= .int .i64 y) (b:= .int .i64 3) (c:= .bool false) (d:= .int .i64 30) hc1)
 obtain⟨g1x4,g1x5,g1x6,g1x7⟩:=dO (B:=(w.1.size+1)) (a:= .int .i64 0) (b:= .int .i64 0) (c:= .bool false) (d:= .int .i64 0) hc1
 go_wp2_with fail
 refine vW (HW.out _) ?_
 go_wp2_with fail
 refine vW (HV.out _) ?_
 go_wp2_with fail
 refine vX (HD.out _ (Tab.below hT bel) (Tab.below hL bel)) fun w2 hb2 hz2 hc2 hf2=>?_
 try simp at hz2
 have hs2x0:w.1.size<w2.1.size:=vO
 have hs2x1:(w.1.size+1)<w2.1.size:=vO
 first|(have _:=k90;obtain⟨g2x0,g2x1,g2x2,g2x3⟩:=dO (B:=w.1.size) (a:= .int .i64 y) (b:= .int .i64 2) (c:= .bool false) (d:= .int .i64 30) hc2)|(obtain⟨g2x0,g2x1,g2x2,g2x3⟩:=dO (B:=w.1.size) (a:= .int .i64 y) (b:= .int .i64 3) (c:= .bool false) (d:= .int .i64 30) hc2)
 obtain⟨g2x4,g2x5,g2x6,g2x7⟩:=dO (B:=(w.1.size+1)) (a:= .int .i64 0) (b:= .int .i64 0) (c:= .bool false) (d:= .int .i64 0) hc2
 go_wp2_with fail
 refine vX (HB.out _ (Tab.below hT bel) (Tab.below hL bel)) fun w3 hb3 hz3 hc3 hf3=>?_
 try simp at hz3
 have hs3x0:(w.1.size+1)<w3.1.size:=vO
 obtain⟨g3x0,g3x1,g3x2,g3x3⟩:=dO (B:=(w.1.size+1)) (a:= .int .i64 0) (b:= .int .i64 0) (c:= .bool false) (d:= .int .i64 0) hc3
 go_wp2_with fail
 refine bodyPost_ret (v:= .tuple #[.agg #[ry,rn,rl,rd],(0:Int)]) (by simp [results,Tryz.results21,go_sem, *]) rfl ⟨rfl, ?_⟩
 exact bel
 )
def Jw:=qF.1
def JB:=qF.2
theorem IG(y n:Int)(Y:Int)(hy:I64 y)(hY:I64 Y)(w:World)(hT:Tab w 6 kevCells)(hL:Tab w 4 lenCells)(h0:A18.iw y n true 30 Y=0)(n2:(n==2)=false)(n3:(n==3)=false)(hi:Cal.leap Y=false):
  vB 21 #[.agg #[y,n,true,(30:Int)],Y] w (.tuple #[.agg #[Y,(5:Int),false,(30:Int)],(0:Int)]):=by
 have HC:=Lib.hid (fun w hT hL=>dI y n true 30 Y hy hY w hT hL)
 obtain⟨hde,h1,h2,hlt⟩:=A18.uS h0
 obtain⟨hvd,hp⟩:=D10.bq hde
 obtain⟨b1,b2⟩:=(⟨hvd.1,hvd.2.1⟩:1<=y/\y<=9999)
 rw [h0]at HC
 have HW:=Lib.hid (fun w=>aN y w vO vO)
 have HV:=Lib.hid (fun w=>aN Y w vO vO)
 have y1:=hy.1
 clear hde hvd hp h0
 rw [hi]at HV
 clear hi
 try generalize Cal.leap y=wl at*
 try generalize Cal.leap Y=il at*
 go_enter (vF Tryz.func21),Tryz.ntmps21
 go_wp2_with fail
 refine vX (HC.out _ (Tab.below hT bel) (Tab.below hL bel)) fun w1 hb1 hz1 hc1 hf1=>?_
 try simp at hz1
 have hs1x0:w.1.size<w1.1.size:=vO
 have hs1x1:(w.1.size+1)<w1.1.size:=vO
 obtain⟨g1x0,g1x1,g1x2,g1x3⟩:=dO (B:=w.1.size) (a:= .int .i64 y) (b:= .int .i64 n) (c:= .bool true) (d:= .int .i64 30) hc1
 obtain⟨g1x4,g1x5,g1x6,g1x7⟩:=dO (B:=(w.1.size+1)) (a:= .int .i64 0) (b:= .int .i64 0) (c:= .bool false) (d:= .int .i64 0) hc1
 go_wp2_with fail
 refine vW (HW.out _) ?_
 go_wp2_with fail
 refine vW (HV.out _) ?_
 go_wp2_with fail
 refine bodyPost_ret (v:= .tuple #[.agg #[Y,(5:Int),false,(30:Int)],(0:Int)]) (by simp [results,Tryz.results21,go_sem, *]) rfl ⟨rfl, ?_⟩
 exact bel
theorem pI:(∀(y n:Int)(Y:Int)(hy:I64 y)(hY:I64 Y)(w:World)(hT:Tab w 6 kevCells)(hL:Tab w 4 lenCells)(h0:A18.iw y n true 30 Y=0)(n2:(n==2)=false)(n3:(n==3)=false)(n6:(n==6)=false)(hi:Cal.leap Y=true),vB 21 #[.agg #[y,n,true,(30:Int)],Y] w (.tuple #[.agg #[A18.bY y n true 30 Y,A18.bN y n true 30 Y,A18.bL y n true 30 Y,A18.bD y n true 30 Y],(0:Int)]))/\(∀(y n:Int)(Y:Int)(hy:I64 y)(hY:I64 Y)(w:World)(hT:Tab w 6 kevCells)(hL:Tab w 4 lenCells)(h0:A18.iw y n false 30 Y=0)(n2:(n==2)=false)(n3:(n==3)=false)(n6:(n==6)=false),vB 21 #[.agg #[y,n,false,(30:Int)],Y] w (.tuple #[.agg #[A18.bY y n false 30 Y,A18.bN y n false 30 Y,A18.bL y n false 30 Y,A18.bD y n false 30 Y],(0:Int)])):=by
 refine⟨@fun y n Y hy hY w hT hL h0 n2 n3 n6 hi=>(fun(k90:Nat)=> ?_) 0,@fun y n Y hy hY w hT hL h0 n2 n3 n6=> ?_⟩
 all_goals(
 first|(have _:=k90;have HC:=Lib.hid (fun w hT hL=>dI y n true 30 Y hy hY w hT hL))|(have HC:=Lib.hid (fun w hT hL=>dI y n false 30 Y hy hY w hT hL))
 obtain⟨hde,h1,h2,hlt⟩:=A18.uS h0
 obtain⟨hvd,hp⟩:=D10.bq hde
 obtain⟨b1,b2⟩:=(⟨hvd.1,hvd.2.1⟩:1<=y/\y<=9999)
 rw [h0]at HC
 have HW:=Lib.hid (fun w=>aN y w vO vO)
 have HV:=Lib.hid (fun w=>aN Y w vO vO)
 first|(have _:=k90;have HB:=Lib.hid (fun w hT hL=>jy y n true 30 Y hy ⟨vO,vO⟩ hY w hT hL))|(have HB:=Lib.hid (fun w hT hL=>jy y n false 30 Y hy ⟨vO,vO⟩ hY w hT hL))
 rw [h0]at HB
 have y1:=hy.1
 clear hde hvd hp h0
 first|(have _:=k90;(rw [hi]at HV);(generalize A18.bY y n true 30 Y=ry at*);(generalize A18.bN y n true 30 Y=rn at*);(generalize A18.bL y n true 30 Y=rl at*);(generalize A18.bD y n true 30 Y=rd at*);(clear hi))|((generalize A18.bY y n false 30 Y=ry at*);(generalize A18.bN y n false 30 Y=rn at*);(generalize A18.bL y n false 30 Y=rl at*);(generalize A18.bD y n false 30 Y=rd at*))
 try generalize Cal.leap y=wl at*
 try generalize Cal.leap Y=il at*
 go_enter (vF Tryz.func21),Tryz.ntmps21
 go_wp2_with fail
 refine vX (HC.out _ (Tab.below hT bel) (Tab.below hL bel)) fun w1 hb1 hz1 hc1 hf1=>?_
 try simp at hz1
 have hs1x0:w.1.size<w1.1.size:=vO
 have hs1x1:(w.1.size+1)<w1.1.size:=vO
 first|(have _:=k90;obtain⟨g1x0,g1x1,g1x2,g1x3⟩:=dO (B:=w.1.size) (a:= .int .i64 y) (b:= .int .i64 n) (c:= .bool true) (d:= .int .i64 30) hc1)|(obtain⟨g1x0,g1x1,g1x2,g1x3⟩:=dO (B:=w.1.size) (a:= .int .i64 y) (b:= .int .i64 n) (c:= .bool false) (d:= .int .i64 30) hc1)
 obtain⟨g1x4,g1x5,g1x6,g1x7⟩:=dO (B:=(w.1.size+1)) (a:= .int .i64 0) (b:= .int .i64 0) (c:= .bool false) (d:= .int .i64 0) hc1
 go_wp2_with fail
 refine vW (HW.out _) ?_
 go_wp2_with fail
 refine vW (HV.out _) ?_
 go_wp2_with fail
 refine vX (HB.out _ (Tab.below hT bel) (Tab.below hL bel)) fun w3 hb3 hz3 hc3 hf3=>?_
 try simp at hz3
 have hs3x0:(w.1.size+1)<w3.1.size:=vO
 obtain⟨g3x0,g3x1,g3x2,g3x3⟩:=dO (B:=(w.1.size+1)) (a:= .int .i64 0) (b:= .int .i64 0) (c:= .bool false) (d:= .int .i64 0) hc3
 go_wp2_with fail
 refine bodyPost_ret (v:= .tuple #[.agg #[ry,rn,rl,rd],(0:Int)]) (by simp [results,Tryz.results21,go_sem, *]) rfl ⟨rfl, ?_⟩
 exact bel
 )
def Gj:=pI.1
def JY:=pI.2
theorem qX:(∀(y:Int)(l:Bool)(d Y:Int)(hy:I64 y)(hd:I64 d)(hY:I64 Y)(w:World)(hT:Tab w 6 kevCells)(hL:Tab w 4 lenCells)(h0:A18.iw y 6 l d Y=0)(d30:(d==30)=false)(hw:Cal.leap y=true),vB 21 #[.agg #[y,(6:Int),l,d],Y] w (.tuple #[.agg #[A18.bY y 6 l d Y,A18.bN y 6 l d Y,A18.bL y 6 l d Y,A18.bD y 6 l d Y],(0:Int)]))/\(∀(y:Int)(l:Bool)(d Y:Int)(hy:I64 y)(hd:I64 d)(hY:I64 Y)(w:World)(hT:Tab w 6 kevCells)(hL:Tab w 4 lenCells)(h0:A18.iw y 6 l d Y=0)(d30:(d==30)=false)(hw:Cal.leap y=false)(hi:Cal.leap Y=false),vB 21 #[.agg #[y,(6:Int),l,d],Y] w (.tuple #[.agg #[A18.bY y 6 l d Y,A18.bN y 6 l d Y,A18.bL y 6 l d Y,A18.bD y 6 l d Y],(0:Int)])):=by
 refine⟨@fun y l d Y hy hd hY w hT hL h0 d30 hw=>(fun(k90:Nat)=> ?_) 0,@fun y l d Y hy hd hY w hT hL h0 d30 hw hi=> ?_⟩
 all_goals(
 have HC:=Lib.hid (fun w hT hL=>dI y 6 l d Y hy hY w hT hL)
 obtain⟨hde,h1,h2,hlt⟩:=A18.uS h0
 obtain⟨hvd,hp⟩:=D10.bq hde
 obtain⟨b1,b2⟩:=(⟨hvd.1,hvd.2.1⟩:1<=y/\y<=9999)
 rw [h0]at HC
 have HW:=Lib.hid (fun w=>aN y w vO vO)
 have HV:=Lib.hid (fun w=>aN Y w vO vO)
 have HB:=Lib.hid (fun w hT hL=>jy y 6 l d Y hy hd hY w hT hL)
 rw [h0]at HB
 have y1:=hy.1
 clear hde hvd hp h0
 first|(have _:=k90;skip)|(rw [hi]at HV)
 rw [hw]at HW
 generalize A18.bY y 6 l d Y=ry at*
 generalize A18.bN y 6 l d Y=rn at*
 generalize A18.bL y 6 l d Y=rl at*
 generalize A18.bD y 6 l d Y=rd at*
 first|(have _:=k90;skip)|(clear hi)
 clear hw
 try generalize Cal.leap y=wl at*
 try generalize Cal.leap Y=il at*
 go_enter (vF Tryz.func21),Tryz.ntmps21
 go_wp2_with fail
 refine vX (HC.out _ (Tab.below hT bel) (Tab.below hL bel)) fun w1 hb1 hz1 hc1 hf1=>?_
 try simp at hz1
 have hs1x0:w.1.size<w1.1.size:=vO
 have hs1x1:(w.1.size+1)<w1.1.size:=vO
 obtain⟨g1x0,g1x1,g1x2,g1x3⟩:=dO (B:=w.1.size) (a:= .int .i64 y) (b:= .int .i64 6) (c:= .bool l) (d:= .int .i64 d) hc1
 obtain⟨g1x4,g1x5,g1x6,g1x7⟩:=dO (B:=(w.1.size+1)) (a:= .int .i64 0) (b:= .int .i64 0) (c:= .bool false) (d:= .int .i64 0) hc1
 go_wp2_with fail
 refine vW (HW.out _) ?_
 go_wp2_with fail
 refine vW (HV.out _) ?_
 go_wp2_with fail
 refine vX (HB.out _ (Tab.below hT bel) (Tab.below hL bel)) fun w3 hb3 hz3 hc3 hf3=>?_
 try simp at hz3
 have hs3x0:(w.1.size+1)<w3.1.size:=vO
 obtain⟨g3x0,g3x1,g3x2,g3x3⟩:=dO (B:=(w.1.size+1)) (a:= .int .i64 0) (b:= .int .i64 0) (c:= .bool false) (d:= .int .i64 0) hc3
 go_wp2_with fail
 refine bodyPost_ret (v:= .tuple #[.agg #[ry,rn,rl,rd],(0:Int)]) (by simp [results,Tryz.results21,go_sem, *]) rfl ⟨rfl, ?_⟩
 exact bel
 )
def G9:=qX.1
def G8:=qX.2
theorem qP:(∀(y:Int)(l:Bool)(d Y:Int)(hy:I64 y)(hd:I64 d)(hY:I64 Y)(w:World)(hT:Tab w 6 kevCells)(hL:Tab w 4 lenCells)(h0:A18.iw y 6 l d Y=0)(d30:(d==30)=false)(hw:Cal.leap y=false)(hi:Cal.leap Y=true),vB 21 #[.agg #[y,(6:Int),l,d],Y] w (.tuple #[.agg #[Y,Cal.ofN (Cal.leap Y) (A18.cM Y 6 d),Cal.ofL (Cal.leap Y) (A18.cM Y 6 d),A18.cD Y 6 d],(0:Int)]))/\(∀(y n:Int)(l:Bool)(d Y:Int)(hy:I64 y)(hd:I64 d)(hY:I64 Y)(w:World)(hT:Tab w 6 kevCells)(hL:Tab w 4 lenCells)(h0:A18.iw y n l d Y=0)(d30:(d==30)=false)(n6:(n==6)=false),vB 21 #[.agg #[y,n,l,d],Y] w (.tuple #[.agg #[A18.bY y n l d Y,A18.bN y n l d Y,A18.bL y n l d Y,A18.bD y n l d Y],(0:Int)])):=by
 refine⟨@fun y l d Y hy hd hY w hT hL h0 d30 hw hi=>(fun(k90:Nat)=> ?_) 0,@fun y n l d Y hy hd hY w hT hL h0 d30 n6=> ?_⟩
 all_goals(
 first|(have _:=k90;have HC:=Lib.hid (fun w hT hL=>dI y 6 l d Y hy hY w hT hL))|(have HC:=Lib.hid (fun w hT hL=>dI y n l d Y hy hY w hT hL))
 obtain⟨hde,h1,h2,hlt⟩:=A18.uS h0
 obtain⟨hvd,hp⟩:=D10.bq hde
 obtain⟨b1,b2⟩:=(⟨hvd.1,hvd.2.1⟩:1<=y/\y<=9999)
 rw [h0]at HC
 have HW:=Lib.hid (fun w=>aN y w vO vO)
 have HV:=Lib.hid (fun w=>aN Y w vO vO)
 first|(have _:=k90;(have hk:A18.k3 y 6 Y=true:=by unfold A18.k3;simp [hw,hi]);(obtain⟨_,hv,hD⟩:=A18.Wi h0 hk);(have hb:=D10.j5 Y 6 h1 h2 vO (by rw [hi];decide));(obtain⟨_,_,d1,d2,_⟩:=A18.MG h0);(have v1:D10.Valid Y 6 1:=⟨h1,h2,vO,by rw [hi];decide,vO,vO⟩);(obtain⟨q0,qD⟩:=D10.Bp v1);(rw [hi,show Cal.ofN true 6=5 by decide,show Cal.ofL true 6=true by decide]at q0 qD);(rw [←qD]at hD);(have HN:=Lib.hid (fun w hT hL=>Ak Y 5 true d (A18.cM Y 6 d) (A18.cD Y 6 d) hY w hT hL q0 ⟨d1,d2⟩ hv hD.symm));(clear hk hv hD hb v1 q0 qD))|((have HB:=Lib.hid (fun w hT hL=>jy y n l d Y hy hd hY w hT hL));(rw [h0]at HB))
 have y1:=hy.1
 clear hde hvd hp h0
 first|(have _:=k90;(rw [hi]at HV);(rw [hw]at HW);(generalize Cal.ofN (Cal.leap Y) (A18.cM Y 6 d)=rn at*);(generalize Cal.ofL (Cal.leap Y) (A18.cM Y 6 d)=rl at*);(generalize A18.cD Y 6 d=rd at*);(clear hi);(clear hw))|((generalize A18.bY y n l d Y=ry at*);(generalize A18.bN y n l d Y=rn at*);(generalize A18.bL y n l d Y=rl at*);(generalize A18.bD y n l d Y=rd at*))
 try generalize Cal.leap y=wl at*
 try generalize Cal.leap Y=il at*
 go_enter (vF Tryz.func21),Tryz.ntmps21
 go_wp2_with fail
 refine vX (HC.out _ (Tab.below hT bel) (Tab.below hL bel)) fun w1 hb1 hz1 hc1 hf1=>?_
 try simp at hz1
 have hs1x0:w.1.size<w1.1.size:=vO
 have hs1x1:(w.1.size+1)<w1.1.size:=vO
 first|(have _:=k90;obtain⟨g1x0,g1x1,g1x2,g1x3⟩:=dO (B:=w.1.size) (a:= .int .i64 y) (b:= .int .i64 6) (c:= .bool l) (d:= .int .i64 d) hc1)|(obtain⟨g1x0,g1x1,g1x2,g1x3⟩:=dO (B:=w.1.size) (a:= .int .i64 y) (b:= .int .i64 n) (c:= .bool l) (d:= .int .i64 d) hc1)
 obtain⟨g1x4,g1x5,g1x6,g1x7⟩:=dO (B:=(w.1.size+1)) (a:= .int .i64 0) (b:= .int .i64 0) (c:= .bool false) (d:= .int .i64 0) hc1
 go_wp2_with fail
 refine vW (HW.out _) ?_
 go_wp2_with fail
 refine vW (HV.out _) ?_
 go_wp2_with fail
 first|(have _:=k90;refine(HN.out _ (Tab.below hT bel) (Tab.below hL bel)).mono ?_)|(refine(HB.out _ (Tab.below hT bel) (Tab.below hL bel)).mono ?_)
 rintro e w3 ⟨rfl,hb3⟩
 obtain⟨hc3,hf3⟩:=aL hb3
 have hz3:=hb3.size
 try simp at hz3
 have hs3x0:(w.1.size+1)<w3.1.size:=vO
 obtain⟨g3x0,g3x1,g3x2,g3x3⟩:=dO (B:=(w.1.size+1)) (a:= .int .i64 0) (b:= .int .i64 0) (c:= .bool false) (d:= .int .i64 0) hc3
 go_wp2_with fail
 first|(have _:=k90;refine bodyPost_ret (v:= .tuple #[.agg #[Y,rn,rl,rd],(0:Int)]) (by simp [results,Tryz.results21,go_sem, *]) rfl ⟨rfl, ?_⟩)|(refine bodyPost_ret (v:= .tuple #[.agg #[ry,rn,rl,rd],(0:Int)]) (by simp [results,Tryz.results21,go_sem, *]) rfl ⟨rfl, ?_⟩)
 exact bel
 )
def Hr:=qP.1
def IE:=qP.2
theorem R5(y n:Int)(l:Bool)(d Y:Int)(hy:I64 y)(hd:I64 d)(hY:I64 Y)(w:World)(hT:Tab w 6 kevCells)(hL:Tab w 4 lenCells):
  vB 21 #[.agg #[y,n,l,d],Y] w (.tuple #[.agg #[A18.bY y n l d Y,A18.tN y n l d Y,A18.tL y n l d Y,A18.tD y n l d Y],A18.iw y n l d Y]):=by
 by_cases h0:A18.iw y n l d Y=0
 ·have hY0:A18.bY y n l d Y=Y:=by unfold A18.bY;rw [if_pos h0]
  obtain⟨hde,_,_,_⟩:=A18.uS h0
  have hr:=A18.jC (D10.bq hde).2
  rw [h0]
  have kb:∀ (c1:¬ A18.k1 y n l d=true) (c2:¬ A18.k2 l d Y=true) (c3:¬ A18.k3 y n Y=true),vB 21 #[.agg #[y,n,l,d],Y] w (.tuple #[.agg #[A18.bY y n l d Y,A18.bN y n l d Y,A18.bL y n l d Y,A18.bD y n l d Y],(0:Int)])->vB 21 #[.agg #[y,n,l,d],Y] w (.tuple #[.agg #[A18.bY y n l d Y,A18.tN y n l d Y,A18.tL y n l d Y,A18.tD y n l d Y],(0:Int)]):=by
   intro c1 c2 c3 H
   obtain⟨e1,e2,e3⟩:=A18.dth_b h0 c1 c2 c3
   rw [e1,e2,e3];exact H
  by_cases hd30:d=30
  ·subst hd30
   have n6:¬ n=6:=fun c=>by subst c;have:=A18.VH hde;omega
   have c3:¬ A18.k3 y n Y=true:=fun c=>by unfold A18.k3 at c;simp at c;omega
   by_cases hn:n=2∨n=3
   ·have hl:=(A18.Mq (lp:=true) hr hn Y).1
    subst hl
    have c2:¬ A18.k2 false 30 Y=true:=fun c=>by unfold A18.k2 at c;simp at c
    by_cases hlt:D10.aY (y+1) n false<30
    ·have c1:A18.k1 y n false 30=true:=by unfold A18.k1;rcases hn with rfl|rfl <;> simp [hlt]
     obtain⟨e1,e2,e3⟩:=A18.aa7 h0 c1
     rw [e1,e2,e3,hY0]
     rcases hn with rfl|rfl
     ·exact Hw y Y hy hY w hT hL h0 (by simpa using hlt)
     ·exact Jc y Y hy hY w hT hL h0 (by simpa using hlt)
    ·have c1:¬ A18.k1 y n false 30=true:=fun c=>hlt (A18.UG c).2.2
     refine kb c1 c2 c3 ?_
     rcases hn with rfl|rfl
     ·exact Jw y Y hy hY w hT hL h0 (by simpa using hlt)
     ·exact JB y Y hy hY w hT hL h0 (by simpa using hlt)
   ·have c1:¬ A18.k1 y n l 30=true:=fun c=>hn (A18.UG c).2.1
    have m2:(n==2)=false:=vQ
    have m3:(n==3)=false:=vQ
    have m6:(n==6)=false:=vQ
    cases hl:l with
    | true=>
     subst hl
     cases hi:Cal.leap Y with
     |false=>
      obtain⟨e1,e2,e3⟩:=A18.ab1 h0 c1 (by unfold A18.k2;simp [hi])
      rw [e1,e2,e3,hY0]
      exact IG y n Y hy hY w hT hL h0 m2 m3 hi
     |true=>exact kb c1 (fun c=>by unfold A18.k2 at c;simp [hi]at c) c3 (Gj y n Y hy hY w hT hL h0 m2 m3 m6 hi)
    |false=>
     subst hl
     exact kb c1 (fun c=>by unfold A18.k2 at c;simp at c) c3 (JY y n Y hy hY w hT hL h0 m2 m3 m6)
  ·have md:(d==30)=false:=by simpa using hd30
   have c1:¬ A18.k1 y n l d=true:=fun c=>hd30 (A18.UG c).1
   have c2:¬ A18.k2 l d Y=true:=fun c=>by unfold A18.k2 at c;simp at c;omega
   by_cases n6:n=6
   ·subst n6
    cases hw:Cal.leap y with
    |true=>exact kb c1 c2 (fun c=>by unfold A18.k3 at c;simp [hw]at c) (G9 y l d Y hy hd hY w hT hL h0 md hw)
    | false=>
     cases hi:Cal.leap Y with
     |false=>exact kb c1 c2 (fun c=>by unfold A18.k3 at c;simp [hi]at c) (G8 y l d Y hy hd hY w hT hL h0 md hw hi)
     |true=>
      obtain⟨e1,e2,e3⟩:=A18.abx h0 c1 c2 (by unfold A18.k3;simp [hw,hi])
      rw [e1,e2,e3,hY0]
      exact Hr y l d Y hy hd hY w hT hL h0 md hw hi
   ·exact kb c1 c2 (fun c=>by unfold A18.k3 at c;simp at c;omega) (IE y n l d Y hy hd hY w hT hL h0 md (by simpa using n6))
 ·have e:A18.bY y n l d Y=0/\A18.tN y n l d Y=0/\A18.tL y n l d Y=false/\A18.tD y n l d Y=0:=by
   unfold A18.bY A18.tN A18.tL A18.tD;rw [if_neg h0,if_neg h0,if_neg h0,if_neg h0];exact⟨rfl,rfl,rfl,rfl⟩
  rw [e.1,e.2.1,e.2.2.1,e.2.2.2]
  exact Gv y n l d Y hy hd hY w hT hL h0
end
end Go.Proofs.YtljbnicolhhicaaGreatDoor
