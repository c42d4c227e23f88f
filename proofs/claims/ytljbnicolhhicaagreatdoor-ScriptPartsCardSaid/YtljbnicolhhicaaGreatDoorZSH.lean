import Derived.Test.YtljbnicolhhicaaGreatDoorZHR
set_option linter.defProp false
set_option maxHeartbeats 8000000
set_option maxRecDepth 100000
set_option linter.unusedVariables false
namespace Go.Proofs.YtljbnicolhhicaaGreatDoor
section
open Go.ChangeShapes Go.WideShapes Go.ChangeAt Go.RowKit Go.Sort
namespace S15
def mode(m:Int):Bool:=decide (m=0)||decide (m=1)
def bT(y n:Int)(l:Bool)(m:Int):Int:=if mode m then(if Cal.dA y then(if Cal.right n l then(if Cal.dH (Cal.leap y) n l then 0 else if m=1 then 7 else 0)else 3)else 2)else 1
def lD(y n:Int)(l:Bool)(m:Int):Int:=if bT y n l m=0 then(if Cal.dH (Cal.leap y) n l then n else 6)else 0
def lu(y n:Int)(l:Bool)(m:Int):Bool:=if bT y n l m=0 then(if Cal.dH (Cal.leap y) n l then l else false)else false
def mY(a:Int):Int:=(19*a+252) / 235
def mM(a:Int):Int:=a-Cal.before (mY a)+1
def dR(y n:Int)(l:Bool)(k:Int):Int:=Cal.before y+Cal.plV (Cal.leap y) n l-1+k
def monE(y n:Int)(l:Bool)(k:Int):Int:=if D10.bO y n l=0 then(if k< -4000000∨4000000<k then 1 else if dR y n l k<0∨123671<=dR y n l k then 2 else 0)else D10.bO y n l
def uV(y n:Int)(l:Bool)(k:Int):Int:=if monE y n l k=0 then mY (dR y n l k)else 0
def Br(y n:Int)(l:Bool)(k:Int):Int:=if monE y n l k=0 then Cal.ofN (Cal.leap (mY (dR y n l k))) (mM (dR y n l k))else 0
def A9(y n:Int)(l:Bool)(k:Int):Bool:=if monE y n l k=0 then Cal.ofL (Cal.leap (mY (dR y n l k))) (mM (dR y n l k))else false
def og(y n:Int)(l:Bool)(d m:Int):Int:=if mode m then(if D10.bO y n l=0 then(if d<1∨30<d then 4 else if d<=D10.aY y n l then 0 else if m=1 then 7 else 0)else D10.bO y n l)else 1
def J2(y n:Int)(l:Bool)(d m:Int):Int:=if og y n l d m=0 then(if d<=D10.aY y n l then d else D10.aY y n l)else 0
theorem U9(a:Int):Cal.before (mY a)<=a/\a<Cal.before (mY a+1):=by unfold mY Cal.before;omega
theorem iL(a b:Int)(h:a<=b):Cal.before a<=Cal.before b:=by unfold Cal.before;omega
theorem abG(a y:Int)(h1:Cal.before y<=a)(h2:a<Cal.before (y+1)):mY a=y:=by unfold Cal.before at h1 h2;unfold mY;omega
theorem yt(y:Int):Cal.before (y+1)=Cal.before y+Cal.most (Cal.leap y):=by
 obtain⟨q,r,e,r0,r1⟩:∃q r:Int,y=19*q+r/\0<=r/\r<19:=⟨y / 19,y % 19,vO,vO,vO⟩
 subst e
 unfold Cal.before Cal.most Cal.leap
 rw [show(7*(19*q+r)+1) % 19=(7*r+1) % 19 by omega,show(235*(19*q+r+1)-234) / 19=235*q+(235*r+1) / 19 by omega,show(235*(19*q+r)-234) / 19=235*q+(235*r-234) / 19 by omega]
 rcases(show r=0∨r=1∨r=2∨r=3∨r=4∨r=5∨r=6∨r=7∨r=8∨r=9∨r=10∨r=11∨r=12∨r=13∨r=14∨r=15∨r=16∨r=17∨r=18 by omega)with rfl|rfl|rfl|rfl|rfl|rfl|rfl|rfl|rfl|rfl|rfl|rfl|rfl|rfl|rfl|rfl|rfl|rfl|rfl <;> simp <;> omega
theorem CR:Cal.before 1=0:=vD
theorem nE:Cal.before 10000=123671:=by decide+kernel
theorem Vl(a:Int)(h0:0<=a)(h1:a<123671):1<=mY a/\mY a<=9999:=by unfold mY;omega
theorem UK(a:Int):1<=mM a/\mM a<=Cal.most (Cal.leap (mY a)):=by
 have:=U9 a
 rw [yt]at this
 unfold mM;omega
theorem YQ(a:Int)(h0:0<=a)(h1:a<123671):
  (((List.range 9998).countP (fun i:Nat=> !decide (a<Cal.before ((i:Int)+2))):Nat):Int)=mY a-1:=by
 obtain⟨y1,y2⟩:=Vl a h0 h1
 obtain⟨s1,s2⟩:=U9 a
 have hr:∀t,t<9998->(List.range 9998)[t]! =t:=fun t ht=>by rw [getElem!_pos _ t (by simpa using ht)];simp
 have:=Lib.countP_boundary (fun i:Nat=> !decide (a<Cal.before ((i:Int)+2))) (List.range 9998) (mY a-1).toNat vQ (fun t ht=> ?_) (fun t h5 h6=> ?_)
 ·rw [this];omega
 ·rw [hr t vO]
  have:=iL ((t:Int)+2) (mY a) vO
  simp only [Bool.not_eq_true',decide_eq_false_iff_not]
  omega
 ·rw [hr t (by simpa using h6)]
  have:=iL (mY a+1) ((t:Int)+2) vO
  simp only [Bool.not_eq_false',decide_eq_true_eq]
  omega
theorem Ab{y n:Int}{l:Bool}(h:D10.bO y n l=0):1<=y/\y<=9999/\Cal.dH (Cal.leap y) n l=true:=by
 unfold D10.bO at h
 split at h
 ·rename_i c
  split at h
  ·rename_i p
   obtain⟨h1,h2⟩:=D10.uj y c
   exact⟨h1,h2,p⟩
  ·omega
 ·omega
theorem lT(y:Int)(h1:0<=y)(h2:y<=10000): -20<=Cal.before y/\Cal.before y<=123671:=by unfold Cal.before;omega
theorem YJ(lp:Bool)(n:Int)(l:Bool)(h:Cal.dH lp n l=true):1<=Cal.plV lp n l/\Cal.plV lp n l<=13:=by
 obtain⟨a,b,_⟩:=D10.iF lp n l h
 unfold Cal.most at b
 refine⟨a, ?_⟩
 split at b <;> omega
theorem BR{y n:Int}{l:Bool}(h:D10.bO y n l=0):29<=D10.aY y n l/\D10.aY y n l<=30:=by
 obtain⟨h1,h2,p⟩:=Ab h
 obtain⟨a,b,_⟩:=D10.iF _ _ _ p
 have e:D10.aY y n l=D10.dLen y (Cal.plV (Cal.leap y) n l):=by simp [D10.aY,Cal.dN y h1 h2,p]
 rw [e]
 exact D10.j5 y _ h1 h2 a b
end S15
def aV(w:World)(g:Nat)(n:Int)(l:Bool):Prop:=w.cell? ⟨g,0,none⟩=some (n:vV)/\w.cell? ⟨g,1,none⟩=some (.bool l)/\(∀i,w.frozen? ⟨g,i,none⟩=false)/\g<w.1.size
theorem aV.below{w w':World}{g:Nat}{n:Int}{l:Bool}(h:aV w g n l)(hb:Below w.1.size w w'):aV w' g n l:=by
 obtain⟨h0,h1,hf,hs⟩:=h
 have c:=fun i=>hb.cell (p:=⟨g,i,none⟩) hs
 exact⟨(c 0).trans h0,(c 1).trans h1,fun i=>(hb.frozen (p:=⟨g,i,none⟩) hs).trans (hf i),Nat.lt_of_lt_of_le hs hb.size⟩
theorem iq(w:World)(n:Int)(l:Bool)(t:TypeId):aV (w.alloc (.cells #[n,l] t)) w.1.size n l:=⟨vG,vG,fun i=>by simp [go_sem],vS⟩
theorem iA(w:World)(o:Obj)(n:Int)(l:Bool)(t:TypeId):aV ((w.alloc o).alloc (.cells #[n,l] t)) (w.1.size+1) n l:=by
 have h:=iq (w.alloc o) n l t
 rwa [show(w.alloc o).1.size=w.1.size+1 by simp]at h
theorem dX(m:Int)(w:World):vC 82 #[m] w (.bool (S15.mode m)):=by
 by_cases a:m=0
 ·subst a
  go_enter (vF Tryz.func82),Tryz.ntmps82
  go_wp2_with fail
  go_ret
  exact⟨rfl,rfl⟩
 ·by_cases b:m=1
  ·subst b
   go_enter (vF Tryz.func82),Tryz.ntmps82
   go_wp2_with fail
   go_ret
   exact⟨rfl,rfl⟩
  ·have e1:(m==0)=false:=by simp [a]
   have e2:(m==1)=false:=by simp [b]
   rw [show S15.mode m=false by simp [S15.mode,a,b]]
   clear a b
   go_enter (vF Tryz.func82),Tryz.ntmps82
   go_wp2_with fail
   go_ret
   exact⟨rfl,rfl⟩
theorem ig(y:Int)(w:World)(h0:0<=y)(h1:y<=10001):vC 149 #[y] w (.int .i64 (Cal.before y)):=by
 have H:=Lib.hid (fun w=>uL y w h0 h1)
 generalize Cal.before y=b at*
 go_enter (vF Tryz.func149),Tryz.ntmps149
 go_wp2_with fail
 refine vW (H.out _) ?_
 go_wp2_with fail
 go_ret
 exact⟨rfl,rfl⟩
theorem kY:(∀(y n:Int)(l:Bool)(m:Int)(w:World)(hm:S15.mode m=false),vB 41 #[y,.agg #[n,l],m] w (.tuple #[.agg #[(0:Int),false],(1:Int)]))/\(∀(y n:Int)(l:Bool)(m:Int)(w:World)(hm:S15.mode m=true)(h:y<1),vB 41 #[y,.agg #[n,l],m] w (.tuple #[.agg #[(0:Int),false],(2:Int)]))/\(∀(y n:Int)(l:Bool)(m:Int)(w:World)(hm:S15.mode m=true)(h0:1<=y)(h:9999<y),vB 41 #[y,.agg #[n,l],m] w (.tuple #[.agg #[(0:Int),false],(2:Int)])):=by
 refine⟨@fun y n l m w hm=>(fun(k90:Nat)=> ?_) 0,@fun y n l m w hm h=> ?_,@fun y n l m w hm h0 h=> ?_⟩
 all_goals(
 first|(have _:=k90;have HM:=Lib.hid (fun w=>(hm▸dX m w:vC 82 #[m] w (.bool false))))|(have HM:=Lib.hid (fun w=>(hm▸dX m w:vC 82 #[m] w (.bool true))))
 clear hm
 go_enter (vF Tryz.func41),Tryz.ntmps41
 go_wp2_with fail
 refine bH (fun W=>aV W w.1.size n l/\aV W (w.1.size+1) 0 false/\Below w.1.size w W) ⟨aV.below (iq _ _ _ _) (ba _ _),iA _ _ _ _ _,baa (ba _ _) _⟩ ?_
 rintro W0 ⟨hC0,hR0,hB0⟩
 have hq:=hC0
 obtain⟨c0,c1,cf,cs⟩:=hq
 have hq:=hR0
 obtain⟨r0,r1,rf,rs⟩:=hq
 refine vW (HM.out _) ?_
 go_wp2_with fail
 first|(have _:=k90;refine bodyPost_ret (v:= .tuple #[.agg #[(0:Int),false],(1:Int)]) (by simp [results,Tryz.results41,go_sem, *]) rfl ⟨rfl, ?_⟩)|(refine bodyPost_ret (v:= .tuple #[.agg #[(0:Int),false],(2:Int)]) (by simp [results,Tryz.results41,go_sem, *]) rfl ⟨rfl, ?_⟩)
 iterate 2 refine Below.setCell ?_ (by first|omega|(simp;done)) _
 exact hB0
 )
def Gn:=kY.1
def I4:=kY.2.1
def F7:=kY.2.2
theorem nZ:(∀(y n:Int)(l:Bool)(m:Int)(w:World)(hm:S15.mode m=true)(h1:1<=y)(h2:y<=9999)(hr:Cal.right n l=false),vB 41 #[y,.agg #[n,l],m] w (.tuple #[.agg #[(0:Int),false],(3:Int)]))/\(∀(y n:Int)(l:Bool)(m:Int)(w:World)(hm:S15.mode m=true)(h1:1<=y)(h2:y<=9999)(hr:Cal.right n l=true)(hp:Cal.dH (Cal.leap y) n l=true),vB 41 #[y,.agg #[n,l],m] w (.tuple #[.agg #[n,l],(0:Int)])):=by
 refine⟨@fun y n l m w hm h1 h2 hr=>(fun(k90:Nat)=> ?_) 0,@fun y n l m w hm h1 h2 hr hp=> ?_⟩
 all_goals(
 have HM:=Lib.hid (fun w=>(hm▸dX m w:vC 82 #[m] w (.bool true)))
 clear hm
 first|(have _:=k90;have HR:=Lib.hid (fun w=>(hr▸oK n l w:vB 83 #[.agg #[n,l]] w (.bool false))))|(have HR:=Lib.hid (fun w=>(hr▸oK n l w:vB 83 #[.agg #[n,l]] w (.bool true))))
 clear hr
 first|(have _:=k90;skip)|((have HL:=Lib.hid (fun w=>aN y w vO vO));(have HP:=Lib.hid (fun w=>(hp▸iD (Cal.leap y) n l w:vB 84 #[Cal.leap y,.agg #[n,l]] w (.tuple #[Cal.plV (Cal.leap y) n l,true]))));(clear hp);(generalize Cal.plV (Cal.leap y) n l=pv at*);(generalize Cal.leap y=lp at*))
 go_enter (vF Tryz.func41),Tryz.ntmps41
 go_wp2_with fail
 refine bH (fun W=>aV W w.1.size n l/\aV W (w.1.size+1) 0 false/\Below w.1.size w W) ⟨aV.below (iq _ _ _ _) (ba _ _),iA _ _ _ _ _,baa (ba _ _) _⟩ ?_
 rintro W0 ⟨hC0,hR0,hB0⟩
 have hq:=hC0
 obtain⟨c0,c1,cf,cs⟩:=hq
 have hq:=hR0
 obtain⟨r0,r1,rf,rs⟩:=hq
 refine vW (HM.out _) ?_
 go_wp2_with fail
 refine(HR.out _).mono ?_
 rintro e W1 ⟨rfl,hb1⟩
 have hC1:=aV.below hC0 hb1
 have hR1:=aV.below hR0 hb1
 have hB1:=bt hB0 hb1
 clear c0 c1 cf cs r0 r1 rf rs
 have hq:=hC1
 obtain⟨c0,c1,cf,cs⟩:=hq
 have hq:=hR1
 obtain⟨r0,r1,rf,rs⟩:=hq
 go_wp2_with fail
 first|(have _:=k90;refine bodyPost_ret (v:= .tuple #[.agg #[(0:Int),false],(3:Int)]) (by simp [results,Tryz.results41,go_sem, *]) rfl ⟨rfl, ?_⟩)|((refine(HL.out _).mono ?_);(rintro e w' ⟨rfl,rfl⟩);(go_wp2_with fail);(refine(HP.out _).mono ?_);(rintro e W2 ⟨rfl,hb2⟩);(have hC2:=aV.below hC1 hb2);(have hR2:=aV.below hR1 hb2);(have hB2:=bt hB1 hb2);(clear c0 c1 cf cs r0 r1 rf rs);(have hq:=hC2);(obtain⟨c0,c1,cf,cs⟩:=hq);(have hq:=hR2);(obtain⟨r0,r1,rf,rs⟩:=hq);(go_wp2_with fail);(refine bodyPost_ret (v:= .tuple #[.agg #[n,l],(0:Int)]) (by simp [results,Tryz.results41,go_sem, *]) rfl ⟨rfl, ?_⟩))
 iterate 2 refine Below.setCell ?_ (by first|omega|(simp;done)) _
 first|(have _:=k90;exact hB1)|(exact hB2)
 )
def D9:=nZ.1
def KW:=nZ.2
theorem q8:(∀(y n:Int)(l:Bool)(m:Int)(w:World)(hm:S15.mode m=true)(h1:1<=y)(h2:y<=9999)(hr:Cal.right n l=true)(hp:Cal.dH (Cal.leap y) n l=false)(h7:m=1),vB 41 #[y,.agg #[n,l],m] w (.tuple #[.agg #[(0:Int),false],(7:Int)]))/\(∀(y n:Int)(l:Bool)(m:Int)(w:World)(hm:S15.mode m=true)(h1:1<=y)(h2:y<=9999)(hr:Cal.right n l=true)(hp:Cal.dH (Cal.leap y) n l=false)(h7:m=0),vB 41 #[y,.agg #[n,l],m] w (.tuple #[.agg #[(6:Int),false],(0:Int)])):=by
 refine⟨@fun y n l m w hm h1 h2 hr hp h7=>(fun(k90:Nat)=> ?_) 0,@fun y n l m w hm h1 h2 hr hp h7=> ?_⟩
 all_goals(
 subst h7
 first|(have _:=k90;have HM:=Lib.hid (fun w=>(hm▸dX 1 w:vC 82 #[(1:Int)] w (.bool true))))|(have HM:=Lib.hid (fun w=>(hm▸dX 0 w:vC 82 #[(0:Int)] w (.bool true))))
 clear hm
 have HR:=Lib.hid (fun w=>(hr▸oK n l w:vB 83 #[.agg #[n,l]] w (.bool true)))
 clear hr
 have HL:=Lib.hid (fun w=>aN y w vO vO)
 have HP:=Lib.hid (fun w=>(hp▸iD (Cal.leap y) n l w:vB 84 #[Cal.leap y,.agg #[n,l]] w (.tuple #[Cal.plV (Cal.leap y) n l,false])))
 clear hp
 generalize Cal.plV (Cal.leap y) n l=pv at*
 generalize Cal.leap y=lp at*
 go_enter (vF Tryz.func41),Tryz.ntmps41
 go_wp2_with fail
 refine bH (fun W=>aV W w.1.size n l/\aV W (w.1.size+1) 0 false/\Below w.1.size w W) ⟨aV.below (iq _ _ _ _) (ba _ _),iA _ _ _ _ _,baa (ba _ _) _⟩ ?_
 rintro W0 ⟨hC0,hR0,hB0⟩
 have hq:=hC0
 obtain⟨c0,c1,cf,cs⟩:=hq
 have hq:=hR0
 obtain⟨r0,r1,rf,rs⟩:=hq
 refine vW (HM.out _) ?_
 go_wp2_with fail
 refine(HR.out _).mono ?_
 rintro e W1 ⟨rfl,hb1⟩
 have hC1:=aV.below hC0 hb1
 have hR1:=aV.below hR0 hb1
 have hB1:=bt hB0 hb1
 clear c0 c1 cf cs r0 r1 rf rs
 have hq:=hC1
 obtain⟨c0,c1,cf,cs⟩:=hq
 have hq:=hR1
 obtain⟨r0,r1,rf,rs⟩:=hq
 go_wp2_with fail
 refine vW (HL.out _) ?_
 go_wp2_with fail
 refine(HP.out _).mono ?_
 rintro e W2 ⟨rfl,hb2⟩
 have hC2:=aV.below hC1 hb2
 have hR2:=aV.below hR1 hb2
 have hB2:=bt hB1 hb2
 clear c0 c1 cf cs r0 r1 rf rs
 have hq:=hC2
 obtain⟨c0,c1,cf,cs⟩:=hq
 have hq:=hR2
 obtain⟨r0,r1,rf,rs⟩:=hq
 go_wp2_with fail
 first|(have _:=k90;refine bodyPost_ret (v:= .tuple #[.agg #[(0:Int),false],(7:Int)]) (by simp [results,Tryz.results41,go_sem, *]) rfl ⟨rfl, ?_⟩)|(refine bodyPost_ret (v:= .tuple #[.agg #[(6:Int),false],(0:Int)]) (by simp [results,Tryz.results41,go_sem, *]) rfl ⟨rfl, ?_⟩)
 iterate 2 refine Below.setCell ?_ (by first|omega|(simp;done)) _
 exact hB2
 )
def JC:=q8.1
def Jk:=q8.2
theorem IW(y n:Int)(l:Bool)(m:Int)(w:World):
  vB 41 #[y,.agg #[n,l],m] w (.tuple #[.agg #[S15.lD y n l m,S15.lu y n l m],S15.bT y n l m]):=by
 unfold S15.lD S15.lu
 cases hm:S15.mode m
 ·rw [show S15.bT y n l m=1 by simp [S15.bT,hm]]
  exact Gn y n l m w hm
 cases hy:Cal.dA y
 ·rw [show S15.bT y n l m=2 by simp [S15.bT,hm,hy]]
  rcases D10.Jm y hy with c|c
  ·exact I4 y n l m w hm c
  ·exact F7 y n l m w hm vO c
 obtain⟨h1,h2⟩:=D10.uj y hy
 cases hr:Cal.right n l
 ·rw [show S15.bT y n l m=3 by simp [S15.bT,hm,hy,hr]]
  exact D9 y n l m w hm h1 h2 hr
 cases hp:Cal.dH (Cal.leap y) n l
 ·by_cases c:m=1
  ·rw [show S15.bT y n l m=7 by subst c;simp [S15.bT,hm,hy,hr,hp]]
   exact JC y n l m w hm h1 h2 hr hp c
  ·have c0:m=0:=by simp [S15.mode,c]at hm;exact hm
   rw [show S15.bT y n l m=0 by simp [S15.bT,hm,hy,hr,hp,c]]
   exact Jk y n l m w hm h1 h2 hr hp c0
 ·rw [show S15.bT y n l m=0 by simp [S15.bT,hm,hy,hr,hp]]
  exact KW y n l m w hm h1 h2 hr hp
theorem Iz(y n:Int)(l:Bool)(d m:Int)(w:World)(hy:I64 y)(hT:Tab w 6 kevCells)(hL:Tab w 4 lenCells)(hm:S15.mode m=false):
  vB 119 #[y,.agg #[n,l],d,m] w (.tuple #[(0:Int),(1:Int)]):=by
 have HM:=Lib.hid (fun w=>(hm▸dX m w:vC 82 #[m] w (.bool false)))
 clear hm
 go_enter (vF Tryz.func119),Tryz.ntmps119
 go_wp2_with fail
 refine vW (HM.out _) ?_
 go_wp2_with fail
 go_ret2
 refine⟨rfl, ?_⟩
 exact ben
theorem Ig(y n:Int)(l:Bool)(d m:Int)(w:World)(hy:I64 y)(hT:Tab w 6 kevCells)(hL:Tab w 4 lenCells)(hm:S15.mode m=true)(he:¬ D10.bO y n l=0):
  vB 119 #[y,.agg #[n,l],d,m] w (.tuple #[(0:Int),D10.bO y n l]):=by
 have HM:=Lib.hid (fun w=>(hm▸dX m w:vC 82 #[m] w (.bool true)))
 clear hm
 have HL:=Lib.hid (fun w hT hL=>kF y n l w hy hT hL)
 generalize D10.bO y n l=le at*
 generalize D10.aY y n l=lv at*
 have he2:(le !=0)=true:=by simpa using he
 go_enter (vF Tryz.func119),Tryz.ntmps119
 go_wp2_with fail
 refine vW (HM.out _) ?_
 go_wp2_with fail
 refine vX (HL.out _ (Tab.below hT ben) (Tab.below hL ben)) fun w1 hb1 hz1 hc1 hf1=>?_
 try simp at hz1
 have hs1x0:w.1.size<w1.1.size:=vO
 have g1x0:w1.cell? ⟨w.1.size,0,none⟩=some (n:vV):=cel hc1
 have g1x1:w1.cell? ⟨w.1.size,1,none⟩=some (.bool l):=cel hc1
 go_wp2_with fail
 go_ret2
 refine⟨rfl, ?_⟩
 exact ben
theorem mZ:(∀(y n:Int)(l:Bool)(d m:Int)(w:World)(hy:I64 y)(hT:Tab w 6 kevCells)(hL:Tab w 4 lenCells)(hm:S15.mode m=true)(he:D10.bO y n l=0)(hd:d<1),vB 119 #[y,.agg #[n,l],d,m] w (.tuple #[(0:Int),(4:Int)]))/\(∀(y n:Int)(l:Bool)(d m:Int)(w:World)(hy:I64 y)(hT:Tab w 6 kevCells)(hL:Tab w 4 lenCells)(hm:S15.mode m=true)(he:D10.bO y n l=0)(hd0:1<=d)(hd:30<d),vB 119 #[y,.agg #[n,l],d,m] w (.tuple #[(0:Int),(4:Int)]))/\(∀(y n:Int)(l:Bool)(d m:Int)(w:World)(hy:I64 y)(hT:Tab w 6 kevCells)(hL:Tab w 4 lenCells)(hm:S15.mode m=true)(he:D10.bO y n l=0)(hd0:1<=d)(hd:d<=30)(hv:d<=D10.aY y n l),vB 119 #[y,.agg #[n,l],d,m] w (.tuple #[d,(0:Int)])):=by
 refine⟨@fun y n l d m w hy hT hL hm he hd=> ?_,@fun y n l d m w hy hT hL hm he hd0 hd=> ?_,@fun y n l d m w hy hT hL hm he hd0 hd hv=> ?_⟩
 all_goals(
 have HM:=Lib.hid (fun w=>(hm▸dX m w:vC 82 #[m] w (.bool true)))
 clear hm
 have hbd:=S15.BR he
 have HL:=Lib.hid (fun w hT hL=>kF y n l w hy hT hL)
 rw [he]at HL
 clear he
 generalize D10.aY y n l=lv at*
 go_enter (vF Tryz.func119),Tryz.ntmps119
 go_wp2_with fail
 refine vW (HM.out _) ?_
 go_wp2_with fail
 refine vX (HL.out _ (Tab.below hT ben) (Tab.below hL ben)) fun w1 hb1 hz1 hc1 hf1=>?_
 try simp at hz1
 have hs1x0:w.1.size<w1.1.size:=vO
 have g1x0:w1.cell? ⟨w.1.size,0,none⟩=some (n:vV):=cel hc1
 have g1x1:w1.cell? ⟨w.1.size,1,none⟩=some (.bool l):=cel hc1
 go_wp2_with fail
 go_ret2
 refine⟨rfl, ?_⟩
 exact ben
 )
def Ku:=mZ.1
def JX:=mZ.2.1
def OX:=mZ.2.2
theorem uD:(∀(y n:Int)(l:Bool)(d m:Int)(w:World)(hy:I64 y)(hT:Tab w 6 kevCells)(hL:Tab w 4 lenCells)(hm:S15.mode m=true)(he:D10.bO y n l=0)(hd0:1<=d)(hd:d<=30)(hv:D10.aY y n l<d)(h7:m=1),vB 119 #[y,.agg #[n,l],d,m] w (.tuple #[(0:Int),(7:Int)]))/\(∀(y n:Int)(l:Bool)(d m:Int)(w:World)(hy:I64 y)(hT:Tab w 6 kevCells)(hL:Tab w 4 lenCells)(hm:S15.mode m=true)(he:D10.bO y n l=0)(hd0:1<=d)(hd:d<=30)(hv:D10.aY y n l<d)(h7:m=0),vB 119 #[y,.agg #[n,l],d,m] w (.tuple #[D10.aY y n l,(0:Int)])):=by
 refine⟨@fun y n l d m w hy hT hL hm he hd0 hd hv h7=>(fun(k90:Nat)=> ?_) 0,@fun y n l d m w hy hT hL hm he hd0 hd hv h7=> ?_⟩
 all_goals(
 subst h7
 first|(have _:=k90;have HM:=Lib.hid (fun w=>(hm▸dX 1 w:vC 82 #[(1:Int)] w (.bool true))))|(have HM:=Lib.hid (fun w=>(hm▸dX 0 w:vC 82 #[(0:Int)] w (.bool true))))
 clear hm
 have hbd:=S15.BR he
 have HL:=Lib.hid (fun w hT hL=>kF y n l w hy hT hL)
 rw [he]at HL
 clear he
 generalize D10.aY y n l=lv at*
 go_enter (vF Tryz.func119),Tryz.ntmps119
 go_wp2_with fail
 refine vW (HM.out _) ?_
 go_wp2_with fail
 refine vX (HL.out _ (Tab.below hT ben) (Tab.below hL ben)) fun w1 hb1 hz1 hc1 hf1=>?_
 try simp at hz1
 have hs1x0:w.1.size<w1.1.size:=vO
 have g1x0:w1.cell? ⟨w.1.size,0,none⟩=some (n:vV):=cel hc1
 have g1x1:w1.cell? ⟨w.1.size,1,none⟩=some (.bool l):=cel hc1
 go_wp2_with fail
 go_ret2
 refine⟨rfl, ?_⟩
 exact ben
 )
def KZ:=uD.1
def Cj:=uD.2
theorem Wy(y n:Int)(l:Bool)(d m:Int)(w:World)(hy:I64 y)(hT:Tab w 6 kevCells)(hL:Tab w 4 lenCells):
  vB 119 #[y,.agg #[n,l],d,m] w (.tuple #[S15.J2 y n l d m,S15.og y n l d m]):=by
 unfold S15.J2
 cases hm:S15.mode m
 ·rw [show S15.og y n l d m=1 by simp [S15.og,hm]]
  exact Iz y n l d m w hy hT hL hm
 by_cases he:D10.bO y n l=0
 ·by_cases c1:d<1∨30<d
  ·rw [show S15.og y n l d m=4 by simp [S15.og,hm,he,c1]]
   by_cases c:d<1
   ·exact Ku y n l d m w hy hT hL hm he c
   ·exact JX y n l d m w hy hT hL hm he vO vO
  ·by_cases c2:d<=D10.aY y n l
   ·rw [show S15.og y n l d m=0 by simp [S15.og,hm,he,c1,c2],if_pos rfl,if_pos c2]
    exact OX y n l d m w hy hT hL hm he vO vO c2
   ·by_cases c3:m=1
    ·rw [show S15.og y n l d m=7 by subst c3;simp [S15.og,hm,he,c1,c2]]
     exact KZ y n l d m w hy hT hL hm he vO vO vO c3
    ·have c0:m=0:=by simp [S15.mode,c3]at hm;exact hm
     rw [show S15.og y n l d m=0 by simp [S15.og,hm,he,c1,c2,c3],if_pos rfl,if_neg c2]
     exact Cj y n l d m w hy hT hL hm he vO vO vO c0
 ·have e:S15.og y n l d m=D10.bO y n l:=by simp [S15.og,hm,he]
  rw [e,if_neg he]
  exact Ig y n l d m w hy hT hL hm he
end
section
open Go.ChangeShapes Go.WideShapes Go.ChangeAt Go.RowKit Go.Sort
end
section
open Go.ChangeShapes Go.WideShapes Go.ChangeAt Go.RowKit Go.Sort
theorem Cb(y n:Int)(l:Bool)(k:Int)(w:World)(hy:I64 y)(hT:Tab w 6 kevCells)(hL:Tab w 4 lenCells)(he:¬ D10.bO y n l=0):
  vB 118 #[y,.agg #[n,l],k] w (.tuple #[(0:Int),.agg #[(0:Int),false],D10.bO y n l]):=by
 have HL:=Lib.hid (fun w hT hL=>kF y n l w hy hT hL)
 generalize hle:D10.bO y n l=le at*
 generalize D10.aY y n l=lv at*
 have he2:(le !=0)=true:=by simpa using he
 clear hle
 go_enter (vF Tryz.func118),Tryz.ntmps118
 go_wp2_with fail
 refine bH (fun W=>aV W w.1.size n l/\aV W (w.1.size+1) 0 false/\Below w.1.size w W) ⟨aV.below (iq _ _ _ _) (ba _ _),iA _ _ _ _ _,baa (ba _ _) _⟩ ?_
 rintro W0 ⟨hC0,hR0,hB0⟩
 have hq:=hC0
 obtain⟨c0,c1,cf,cs⟩:=hq
 have hq:=hR0
 obtain⟨r0,r1,rf,rs⟩:=hq
 refine(HL.out _ (Tab.below hT hB0) (Tab.below hL hB0)).mono ?_
 rintro e W1 ⟨rfl,hb1⟩
 have hC1:=aV.below hC0 hb1
 have hR1:=aV.below hR0 hb1
 have hB1:=bt hB0 hb1
 clear c0 c1 cf cs r0 r1 rf rs
 have hq:=hC1
 obtain⟨c0,c1,cf,cs⟩:=hq
 have hq:=hR1
 obtain⟨r0,r1,rf,rs⟩:=hq
 go_wp2_with fail
 refine bodyPost_ret (v:= .tuple #[(0:Int),.agg #[(0:Int),false],le]) (by simp [results,Tryz.results118,go_sem, *]) rfl ⟨rfl, ?_⟩
 iterate 2 refine Below.setCell ?_ (by first|omega|(simp;done)) _
 exact hB1
theorem oU:(∀(y n:Int)(l:Bool)(k:Int)(w:World)(hy:I64 y)(hT:Tab w 6 kevCells)(hL:Tab w 4 lenCells)(he:D10.bO y n l=0)(hk:k< -4000000),vB 118 #[y,.agg #[n,l],k] w (.tuple #[(0:Int),.agg #[(0:Int),false],(1:Int)]))/\(∀(y n:Int)(l:Bool)(k:Int)(w:World)(hy:I64 y)(hT:Tab w 6 kevCells)(hL:Tab w 4 lenCells)(he:D10.bO y n l=0)(hk0: -4000000<=k)(hk:4000000<k),vB 118 #[y,.agg #[n,l],k] w (.tuple #[(0:Int),.agg #[(0:Int),false],(1:Int)])):=by
 refine⟨@fun y n l k w hy hT hL he hk=> ?_,@fun y n l k w hy hT hL he hk0 hk=> ?_⟩
 all_goals(
 have HL:=Lib.hid (fun w hT hL=>kF y n l w hy hT hL)
 rw [he]at HL
 obtain⟨h1,h2,hp⟩:=S15.Ab he
 clear he
 generalize D10.aY y n l=lv at*
 clear hp
 go_enter (vF Tryz.func118),Tryz.ntmps118
 go_wp2_with fail
 refine bH (fun W=>aV W w.1.size n l/\aV W (w.1.size+1) 0 false/\Below w.1.size w W) ⟨aV.below (iq _ _ _ _) (ba _ _),iA _ _ _ _ _,baa (ba _ _) _⟩ ?_
 rintro W0 ⟨hC0,hR0,hB0⟩
 have hq:=hC0
 obtain⟨c0,c1,cf,cs⟩:=hq
 have hq:=hR0
 obtain⟨r0,r1,rf,rs⟩:=hq
 refine(HL.out _ (Tab.below hT hB0) (Tab.below hL hB0)).mono ?_
 rintro e W1 ⟨rfl,hb1⟩
 have hC1:=aV.below hC0 hb1
 have hR1:=aV.below hR0 hb1
 have hB1:=bt hB0 hb1
 clear c0 c1 cf cs r0 r1 rf rs
 have hq:=hC1
 obtain⟨c0,c1,cf,cs⟩:=hq
 have hq:=hR1
 obtain⟨r0,r1,rf,rs⟩:=hq
 go_wp2_with fail
 refine bodyPost_ret (v:= .tuple #[(0:Int),.agg #[(0:Int),false],(1:Int)]) (by simp [results,Tryz.results118,go_sem, *]) rfl ⟨rfl, ?_⟩
 iterate 2 refine Below.setCell ?_ (by first|omega|(simp;done)) _
 exact hB1
 )
def DN:=oU.1
def BJ:=oU.2
theorem lC:(∀(y n:Int)(l:Bool)(k:Int)(w:World)(hy:I64 y)(hT:Tab w 6 kevCells)(hL:Tab w 4 lenCells)(he:D10.bO y n l=0)(hk0: -4000000<=k)(hk:k<=4000000)(hA:S15.dR y n l k<0),vB 118 #[y,.agg #[n,l],k] w (.tuple #[(0:Int),.agg #[(0:Int),false],(2:Int)]))/\(∀(y n:Int)(l:Bool)(k:Int)(w:World)(hy:I64 y)(hT:Tab w 6 kevCells)(hL:Tab w 4 lenCells)(he:D10.bO y n l=0)(hk0: -4000000<=k)(hk:k<=4000000)(hA0:0<=S15.dR y n l k)(hA:123671<=S15.dR y n l k),vB 118 #[y,.agg #[n,l],k] w (.tuple #[(0:Int),.agg #[(0:Int),false],(2:Int)])):=by
 refine⟨@fun y n l k w hy hT hL he hk0 hk hA=>(fun(k90:Nat)=> ?_) 0,@fun y n l k w hy hT hL he hk0 hk hA0 hA=> ?_⟩
 all_goals(
 have HL:=Lib.hid (fun w hT hL=>kF y n l w hy hT hL)
 rw [he]at HL
 obtain⟨h1,h2,hp⟩:=S15.Ab he
 clear he
 generalize D10.aY y n l=lv at*
 have hpb:=S15.YJ _ _ _ hp
 have hbb:=S15.lT y vO vO
 have HLp:=Lib.hid (fun w=>aN y w vO vO)
 have HPl:=Lib.hid (fun w=>(hp▸iD (Cal.leap y) n l w:vB 84 #[Cal.leap y,.agg #[n,l]] w (.tuple #[Cal.plV (Cal.leap y) n l,true])))
 have HBy:=Lib.hid (fun w=>ig y w vO vO)
 have HB1:=Lib.hid (fun w=>(S15.CR▸ig 1 w vO vO:vC 149 #[(1:Int)] w (.int .i64 0)))
 have HB2:=Lib.hid (fun w=>(S15.nE▸ig 10000 w vO vO:vC 149 #[(10000:Int)] w (.int .i64 123671)))
 clear hp
 first|(have _:=k90;unfold S15.dR at hA)|(unfold S15.dR at hA hA0)
 generalize Cal.plV (Cal.leap y) n l=pv at*
 generalize Cal.leap y=lp at*
 generalize Cal.before y=bf at*
 first|(have _:=k90;have g1:decide (bf+pv-1+k<0)=true:=by simpa using hA)|((have g1:decide (bf+pv-1+k<0)=false:=by simp;omega);(have g2:decide (123671<=bf+pv-1+k)=true:=by simpa using hA))
 go_enter (vF Tryz.func118),Tryz.ntmps118
 go_wp2_with fail
 refine bH (fun W=>aV W w.1.size n l/\aV W (w.1.size+1) 0 false/\Below w.1.size w W) ⟨aV.below (iq _ _ _ _) (ba _ _),iA _ _ _ _ _,baa (ba _ _) _⟩ ?_
 rintro W0 ⟨hC0,hR0,hB0⟩
 have hq:=hC0
 obtain⟨c0,c1,cf,cs⟩:=hq
 have hq:=hR0
 obtain⟨r0,r1,rf,rs⟩:=hq
 refine(HL.out _ (Tab.below hT hB0) (Tab.below hL hB0)).mono ?_
 rintro e W1 ⟨rfl,hb1⟩
 have hC1:=aV.below hC0 hb1
 have hR1:=aV.below hR0 hb1
 have hB1:=bt hB0 hb1
 clear c0 c1 cf cs r0 r1 rf rs
 have hq:=hC1
 obtain⟨c0,c1,cf,cs⟩:=hq
 have hq:=hR1
 obtain⟨r0,r1,rf,rs⟩:=hq
 go_wp2_with fail
 refine vW (HLp.out _) ?_
 go_wp2_with fail
 refine(HPl.out _).mono ?_
 rintro e W2 ⟨rfl,hb2⟩
 have hC2:=aV.below hC1 hb2
 have hR2:=aV.below hR1 hb2
 have hB2:=bt hB1 hb2
 clear c0 c1 cf cs r0 r1 rf rs
 have hq:=hC2
 obtain⟨c0,c1,cf,cs⟩:=hq
 have hq:=hR2
 obtain⟨r0,r1,rf,rs⟩:=hq
 go_wp2_with fail
 refine vW (HBy.out _) ?_
 go_wp2_with fail
 refine settle (fun W=>W.cell? ⟨W2.1.size,0,none⟩=some (.int .i64 (bf+pv-1+k))/\W2.1.size<W.1.size/\aV W (w.1.size+1) 0 false/\Below w.1.size w W) ⟨vG,vS,aV.below hR2 (ba _ _),baa hB2 _⟩ ?_
 rintro W3 ⟨a0,az,hR3,hB3⟩
 refine bP vK vK (fun hall=> ?_)
 repeat(first|go_big_quiet_skip|(go_big_quiet_want;first|(refine ql1 _ _ _ rfl rfl ?_;apply Exists.intro;refine⟨?_, ?_⟩;assumption;go_simp;go_big_quiet_on)|(refine ql2 _ _ _ _ rfl rfl ?_;apply Exists.intro;apply Exists.intro;refine⟨?_, ?_, ?_⟩;assumption;assumption;go_simp;go_big_quiet_on)|(refine ql3 _ _ _ _ rfl rfl ?_;apply Exists.intro;apply Exists.intro;apply Exists.intro;refine⟨?_, ?_, ?_, ?_⟩;assumption;assumption;assumption;go_simp;go_big_quiet_on)|(refine ql4 _ _ _ _ rfl rfl ?_;apply Exists.intro;apply Exists.intro;apply Exists.intro;apply Exists.intro;refine⟨?_, ?_, ?_, ?_, ?_⟩;assumption;assumption;assumption;assumption;go_simp;go_big_quiet_on)|(go_big_quiet_op;first|go_big_quiet_on|(apply Exists.intro;refine⟨fun x hx=> ?_, ?_⟩;(first|(with_reducible exact jK hx (HB1.out x))|(with_reducible exact jK hx (HB2.out x))|exact jK hx (HB1.out x)|exact jK hx (HB2.out x));go_big_quiet_on))))
 refine wpQuiet_nil ?_
 clear hall
 intro x4 hx4
 have a1:=(hx4.cell (p:=⟨W2.1.size,0,none⟩) az).trans a0
 have az4:=Nat.lt_of_lt_of_le az hx4.size
 have hR4:=aV.below hR3 hx4
 have hB4:=bt hB3 hx4
 clear a0 az c0 c1 cf cs r0 r1 rf rs
 have hq:=hR4
 obtain⟨r0,r1,rf,rs⟩:=hq
 go_wp2_with fail
 refine bodyPost_ret (v:= .tuple #[(0:Int),.agg #[(0:Int),false],(2:Int)]) (by simp [results,Tryz.results118,go_sem, *]) rfl ⟨rfl, ?_⟩
 iterate 2 refine Below.setCell ?_ (by first|omega|(simp;done)) _
 exact hB4
 )
def Ah:=lC.1
def Ae:=lC.2
theorem KA(y:Int)(w:World)(h0:0<=y)(h1:y<=10001):Calls Tryo.prog 149 #[y] w fun e w'=>e= .returned (.int .i64 (Cal.before y))/\w'=w:=(ig y w h0 h1).mono fun _ _ h=>⟨h.1,h.2.symm⟩
theorem Lh(d i:Int)(B:Nat)(w:World)(hc:w.cell? ⟨B,0,none⟩=some (d:vV))(h0:0<=i)(h1:i<9998):
  Calls Tryo.prog 150 #[i,.pointer (some ⟨B,0,none⟩)] w fun e w'=>e= .returned (.bool (decide (d<Cal.before (i+2))))/\∃q,w'=w.drewN q:=by
 have H:=Lib.hid (fun w=>KA (i+2) w vO vO)
 have e1:IntKind.i64.wrap (1+i)=1+i:=IntWalk.i64_in _ vO
 have e2:IntKind.i64.wrap (1+i+1)=i+2:=by rw [show 1+i+1=i+2 by omega];exact IntWalk.i64_in _ vO
 go_enter (vF Tryz.func150),Tryz.ntmps150
 go_wp2_with fail
 clear h0 h1
 go_quiet ((go_at_call 149;exact Calls.quiet_of_same (H.out _)))
 go_wp2_with fail
 go_ret
 exact⟨rfl,_,rfl⟩
theorem Gd(y n:Int)(l:Bool)(k:Int)(w:World)(hy:I64 y)(hT:Tab w 6 kevCells)(hL:Tab w 4 lenCells)(he:D10.bO y n l=0)(hk0: -4000000<=k)(hk:k<=4000000)(hA0:0<=S15.dR y n l k)(hA1:S15.dR y n l k<123671):
  vB 118 #[y,.agg #[n,l],k] w (.tuple #[S15.mY (S15.dR y n l k),.agg #[.int .i64 (Cal.ofN (Cal.leap (S15.mY (S15.dR y n l k))) (S15.mM (S15.dR y n l k))),.bool (Cal.ofL (Cal.leap (S15.mY (S15.dR y n l k))) (S15.mM (S15.dR y n l k)))],(0:Int)]):=by
 have HL:=Lib.hid (fun w hT hL=>kF y n l w hy hT hL)
 rw [he]at HL
 obtain⟨h1,h2,hp⟩:=S15.Ab he
 clear he
 generalize D10.aY y n l=lv at*
 have hpb:=S15.YJ _ _ _ hp
 have hbb:=S15.lT y vO vO
 have HLp:=Lib.hid (fun w=>aN y w vO vO)
 have HPl:=Lib.hid (fun w=>(hp▸iD (Cal.leap y) n l w:vB 84 #[Cal.leap y,.agg #[n,l]] w (.tuple #[Cal.plV (Cal.leap y) n l,true])))
 have HBy:=Lib.hid (fun w=>ig y w vO vO)
 have HB1:=Lib.hid (fun w=>(S15.CR▸ig 1 w vO vO:vC 149 #[(1:Int)] w (.int .i64 0)))
 have HB2:=Lib.hid (fun w=>(S15.nE▸ig 10000 w vO vO:vC 149 #[(10000:Int)] w (.int .i64 123671)))
 clear hp
 unfold S15.dR at*
 generalize Cal.plV (Cal.leap y) n l=pv at*
 generalize Cal.leap y=lp at*
 generalize Cal.before y=bf at*
 obtain⟨t1,t2⟩:=S15.Vl _ hA0 hA1
 have tm:=S15.UK (bf+pv-1+k)
 have tc:=S15.YQ _ hA0 hA1
 have g1:decide (bf+pv-1+k<0)=false:=vQ
 have g2:decide (123671<=bf+pv-1+k)=false:=vQ
 have HBm:=Lib.hid (fun w=>ig (S15.mY (bf+pv-1+k)) w vO vO)
 have HLm:=Lib.hid (fun w=>aN (S15.mY (bf+pv-1+k)) w vO vO)
 have hmM:S15.mM (bf+pv-1+k)=bf+pv-1+k-Cal.before (S15.mY (bf+pv-1+k))+1:=rfl
 have hbm:=S15.lT (S15.mY (bf+pv-1+k)) vO vO
 have tmb:S15.mM (bf+pv-1+k)<=13:=by have:=tm.2;unfold Cal.most at this;split at this <;> omega
 have HOf:=Lib.hid (fun w=>ES (Cal.leap (S15.mY (bf+pv-1+k))) (S15.mM (bf+pv-1+k)) w vO)
 have HQ:∀ (B:Nat) (W:World),W.cell? ⟨B,0,none⟩=some (.int .i64 (bf+pv-1+k))->B<W.1.size->vB 107 #[(9998:Int),.func (.func 150) #[] #[.pointer (some ⟨B,0,none⟩)]] W (.int .i64 (S15.mY (bf+pv-1+k)-1)):=by
  intro B W hW hs
  have hh:=Any.sort_Search search 150 #[.pointer (some ⟨B,0,none⟩)] 9998 (fun i=>decide (bf+pv-1+k<Cal.before ((i:Int)+2))) W (enters_of (vF Tryz.func150) vK rfl) vO
   (fun m os i hi=>(Lh (bf+pv-1+k) i B _ (cell_grown hs hW m os) vO vO).mono fun e w' h=>⟨h.1,by obtain⟨q,hq⟩:=h.2;exact⟨q,#[],by rw [hq,grow_empty]⟩⟩)
   (fun a b hab hb hp=>by
    have hp':=of_decide_eq_true hp
    have:=S15.iL ((a:Int)+2) ((b:Int)+2) vO
    exact decide_eq_true vO)
  rw [tc]at hh
  exact hh.mono fun e w' h=>⟨h.1,by obtain⟨q,os,rfl⟩:=h.2;exact below_grown_sl _ W q os (Nat.le_refl _)⟩
 have HR:=Lib.hid HQ
 clear HQ tc tm
 generalize hAe:bf+pv-1+k=A at*
 generalize Cal.ofN (Cal.leap (S15.mY A)) (S15.mM A)=rn at*
 generalize Cal.ofL (Cal.leap (S15.mY A)) (S15.mM A)=rl at*
 generalize Cal.qo (Cal.leap (S15.mY A)) (S15.mM A)=ro at*
 generalize S15.mM A=mm at*
 generalize Cal.leap (S15.mY A)=lp2 at*
 generalize Cal.before (S15.mY A)=bm at*
 generalize S15.mY A=ry at*
 have hAh:=Lib.hid hAe
 have hmh:=Lib.hid hmM
 clear hAe hmM
 go_enter (vF Tryz.func118),Tryz.ntmps118
 go_wp2_with fail
 refine bH (fun W=>aV W w.1.size n l/\aV W (w.1.size+1) 0 false/\Below w.1.size w W) ⟨aV.below (iq _ _ _ _) (ba _ _),iA _ _ _ _ _,baa (ba _ _) _⟩ ?_
 rintro W0 ⟨hC0,hR0,hB0⟩
 have hq:=hC0
 obtain⟨c0,c1,cf,cs⟩:=hq
 have hq:=hR0
 obtain⟨r0,r1,rf,rs⟩:=hq
 refine(HL.out _ (Tab.below hT hB0) (Tab.below hL hB0)).mono ?_
 rintro e W1 ⟨rfl,hb1⟩
 have hC1:=aV.below hC0 hb1
 have hR1:=aV.below hR0 hb1
 have hB1:=bt hB0 hb1
 clear c0 c1 cf cs r0 r1 rf rs
 have hq:=hC1
 obtain⟨c0,c1,cf,cs⟩:=hq
 have hq:=hR1
 obtain⟨r0,r1,rf,rs⟩:=hq
 go_wp2_with fail
 refine vW (HLp.out _) ?_
 go_wp2_with fail
 refine(HPl.out _).mono ?_
 rintro e W2 ⟨rfl,hb2⟩
 have hC2:=aV.below hC1 hb2
 have hR2:=aV.below hR1 hb2
 have hB2:=bt hB1 hb2
 clear c0 c1 cf cs r0 r1 rf rs
 have hq:=hC2
 obtain⟨c0,c1,cf,cs⟩:=hq
 have hq:=hR2
 obtain⟨r0,r1,rf,rs⟩:=hq
 go_wp2_with fail
 refine vW (HBy.out _) ?_
 go_wp2_with fail
 refine settle (fun W=>W.cell? ⟨W2.1.size,0,none⟩=some (A:vV)/\W2.1.size<W.1.size/\aV W (w.1.size+1) 0 false/\Below w.1.size w W) ⟨by rw [←hAh.out];simp [go_sem],vS,aV.below hR2 (ba _ _),baa hB2 _⟩ ?_
 rintro W3 ⟨a0,az,hR3,hB3⟩
 refine bP vK vK (fun hall=> ?_)
 repeat(first|go_big_quiet_skip|(go_big_quiet_want;first|(refine ql1 _ _ _ rfl rfl ?_;apply Exists.intro;refine⟨?_, ?_⟩;assumption;go_simp;go_big_quiet_on)|(refine ql2 _ _ _ _ rfl rfl ?_;apply Exists.intro;apply Exists.intro;refine⟨?_, ?_, ?_⟩;assumption;assumption;go_simp;go_big_quiet_on)|(refine ql3 _ _ _ _ rfl rfl ?_;apply Exists.intro;apply Exists.intro;apply Exists.intro;refine⟨?_, ?_, ?_, ?_⟩;assumption;assumption;assumption;go_simp;go_big_quiet_on)|(refine ql4 _ _ _ _ rfl rfl ?_;apply Exists.intro;apply Exists.intro;apply Exists.intro;apply Exists.intro;refine⟨?_, ?_, ?_, ?_, ?_⟩;assumption;assumption;assumption;assumption;go_simp;go_big_quiet_on)|(go_big_quiet_op;first|go_big_quiet_on|(apply Exists.intro;refine⟨fun x hx=> ?_, ?_⟩;(first|(with_reducible exact jK hx (HB1.out x))|(with_reducible exact jK hx (HB2.out x))|exact jK hx (HB1.out x)|exact jK hx (HB2.out x));go_big_quiet_on))))
 refine wpQuiet_nil ?_
 clear hall
 intro x4 hx4
 have a1:=(hx4.cell (p:=⟨W2.1.size,0,none⟩) az).trans a0
 have az4:=Nat.lt_of_lt_of_le az hx4.size
 have hR4:=aV.below hR3 hx4
 have hB4:=bt hB3 hx4
 clear a0 az c0 c1 cf cs r0 r1 rf rs
 have hq:=hR4
 obtain⟨r0,r1,rf,rs⟩:=hq
 go_wp2_with fail
 refine(HR.out _ _ a1 az4).mono ?_
 rintro e W5 ⟨rfl,hb5⟩
 have a2:=(hb5.cell (p:=⟨W2.1.size,0,none⟩) az4).trans a1
 have az5:=Nat.lt_of_lt_of_le az4 hb5.size
 have hR5:=aV.below hR4 hb5
 have hB5:=bt hB4 hb5
 clear a1 az4 r0 r1 rf rs
 have hq:=hR5
 obtain⟨r0,r1,rf,rs⟩:=hq
 have ey:1+(ry-1)=ry:=vO
 go_wp2_with fail
 refine vW (HLm.out _) ?_
 go_wp2_with fail
 have w1:IntKind.i64.wrap (A-bm)=A-bm:=IntWalk.i64_in _ vO
 have w2:IntKind.i64.wrap (A-bm+1)=mm:=by rw [hmh.out];exact IntWalk.i64_in _ (by have:=hmh.out;omega)
 clear ey
 go_region_with (first|(go_at_call 149;refine(HBm.out _).mono ?_;rintro e w6 ⟨rfl,rfl⟩)|(go_at_call 62;refine(HOf.out _).mono ?_;rintro e W7 ⟨rfl,hb7⟩;have hW7:=bt (show Below W5.1.size W5 _ by repeat(first|(with_reducible exact Below.refl _ _)|(with_reducible refine aT ?_)|(with_reducible refine baa ?_ _))) hb7;have hR7:=aV.below hR5 hW7;have hB7:=bt hB5 hW7;obtain⟨hc7,hf7⟩:=aL hb7;have hz7:=hb7.size;have hq:=hR7;obtain⟨z0,z1,zf,zs⟩:=hq;try simp at hz7))
 all_goals go_wp2_with fail
 all_goals go_region
 all_goals go_wp2_with fail
 all_goals refine bodyPost_ret (v:= .tuple #[ry,.agg #[rn,rl],(0:Int)]) (by simp [results,Tryz.results118,go_sem, *]) rfl ⟨rfl, ?_⟩
 all_goals(repeat(first|(with_reducible exact Below.refl _ _)|(with_reducible assumption)|(with_reducible refine aT ?_)|(with_reducible refine baa ?_ _)|(with_reducible refine bs ?_ (by first|exact Nat.le_refl _|omega|(simp;done)|(simp;omega)) _)))
end
section
open Go.ChangeShapes Go.WideShapes Go.ChangeAt Go.RowKit Go.Sort
namespace S15
end S15
theorem Ou(y n:Int)(l:Bool)(k:Int)(w:World)(hy:I64 y)(hT:Tab w 6 kevCells)(hL:Tab w 4 lenCells):
  vB 118 #[y,.agg #[n,l],k] w (.tuple #[S15.uV y n l k,.agg #[S15.Br y n l k,S15.A9 y n l k],S15.monE y n l k]):=by
 unfold S15.uV S15.Br S15.A9
 by_cases he:D10.bO y n l=0
 ·by_cases c1:k< -4000000∨4000000<k
  ·rw [show S15.monE y n l k=1 by simp [S15.monE,he,c1]]
   by_cases c:k< -4000000
   ·exact DN y n l k w hy hT hL he c
   ·exact BJ y n l k w hy hT hL he vO vO
  ·by_cases c2:S15.dR y n l k<0∨123671<=S15.dR y n l k
   ·rw [show S15.monE y n l k=2 by simp [S15.monE,he,c1,c2]]
    by_cases c:S15.dR y n l k<0
    ·exact Ah y n l k w hy hT hL he vO vO c
    ·exact Ae y n l k w hy hT hL he vO vO vO vO
   ·rw [show S15.monE y n l k=0 by simp [S15.monE,he,c1,c2],if_pos rfl,if_pos rfl,if_pos rfl]
    exact Gd y n l k w hy hT hL he vO vO vO vO
 ·have e:S15.monE y n l k=D10.bO y n l:=by simp [S15.monE,he]
  rw [e,if_neg he,if_neg he,if_neg he]
  exact Cb y n l k w hy hT hL he
end
section
open Go.ChangeShapes Go.WideShapes Go.ChangeAt Go.RowKit
namespace S15
theorem SX:∀lp:Bool,Cal.ofN lp (Cal.most lp)=12:=vD
theorem Ic(lp:Bool)(n:Int)(l:Bool)(h:Cal.dH lp n l=true):n=12↔Cal.plV lp n l=Cal.most lp:=by
 obtain⟨a,b,c,d⟩:=D10.iF lp n l h
 refine⟨fun e=> ?_,fun e=> ?_⟩
 ·subst e
  cases l
  ·cases lp <;> rfl
  ·exact absurd h (by cases lp <;> decide)
 ·rw [←c,e];exact SX lp
theorem O0{y n:Int}{l:Bool}(h1:1<=y)(h2:y<=9999)(hp:Cal.dH (Cal.leap y) n l=true):D10.bO y n l=0:=by simp [D10.bO,Cal.dN y h1 h2,hp]
theorem abe{y n k:Int}{l:Bool}(h:monE y n l k=0):D10.bO y n l=0/\ -4000000<=k/\k<=4000000/\0<=dR y n l k/\dR y n l k<123671:=by
 unfold monE at h
 split at h
 ·rename_i he
  split at h
  ·omega
  ·split at h
   ·omega
   ·exact⟨he,vO,vO,vO,vO⟩
 ·rename_i he;exact absurd h he
theorem aaT{y n k:Int}{l:Bool}(he:D10.bO y n l=0)(h1: -4000000<=k)(h2:k<=4000000)(h3:0<=dR y n l k)(h4:dR y n l k<123671):monE y n l k=0:=by
 unfold monE;rw [if_pos he,if_neg vO,if_neg vO]
theorem Mh{y n k:Int}{l:Bool}(h:monE y n l k=0):D10.bO (uV y n l k) (Br y n l k) (A9 y n l k)=0/\1<=uV y n l k/\uV y n l k<=9999/\∀b,dR (uV y n l k) (Br y n l k) (A9 y n l k) b=dR y n l (k+b):=by
 obtain⟨he,k1,k2,a1,a2⟩:=abe h
 obtain⟨y1,y2⟩:=Vl _ a1 a2
 obtain⟨m1,m2⟩:=UK (dR y n l k)
 obtain⟨_,p1,p2⟩:=D10.IL _ _ m1 m2
 have e1:uV y n l k=mY (dR y n l k):=by unfold uV;rw [if_pos h]
 have e2:Br y n l k=Cal.ofN (Cal.leap (mY (dR y n l k))) (mM (dR y n l k)):=by unfold Br;rw [if_pos h]
 have e3:A9 y n l k=Cal.ofL (Cal.leap (mY (dR y n l k))) (mM (dR y n l k)):=by unfold A9;rw [if_pos h]
 rw [e1,e2,e3]
 refine⟨O0 y1 y2 p1,y1,y2,fun b=> ?_⟩
 have:dR y n l (k+b)=dR y n l k+b:=by unfold dR;omega
 rw [this]
 generalize dR y n l k=A at*
 unfold dR
 rw [p2]
 unfold mM;omega
theorem Yg{y n k:Int}{l:Bool}(he:D10.bO y n l=0)(k1: -4000000<=k)(k2:k<=4000000)(m z:Int)(z1:1<=z)(z2:z<=9999)(m1:1<=m)(m2:m<=Cal.most (Cal.leap z))(e:dR y n l k=Cal.before z+m-1):
  monE y n l k=0/\uV y n l k=z/\Br y n l k=Cal.ofN (Cal.leap z) m/\A9 y n l k=Cal.ofL (Cal.leap z) m:=by
 have hn:=yt z
 have a1:=iL 1 z z1
 have a2:=iL (z+1) 10000 vO
 rw [CR]at a1
 rw [nE]at a2
 have h:=aaT he k1 k2 vO vO
 have hy:mY (dR y n l k)=z:=abG _ _ vO vO
 have hm:mM (dR y n l k)=m:=by unfold mM;rw [hy];omega
 exact⟨h,by unfold uV;rw [if_pos h,hy],by unfold Br;rw [if_pos h,hy,hm],by unfold A9;rw [if_pos h,hy,hm]⟩
theorem XD{y n:Int}{l:Bool}(he:D10.bO y n l=0):monE y n l 0=0/\uV y n l 0=y/\Br y n l 0=n/\A9 y n l 0=l:=by
 obtain⟨h1,h2,hp⟩:=Ab he
 obtain⟨p1,p2,p3,p4⟩:=D10.iF _ _ _ hp
 have:=Yg he (k:=0) vO vO _ y h1 h2 p1 p2 (by unfold dR;omega)
 rwa [p3,p4]at this
end S15
end
end Go.Proofs.YtljbnicolhhicaaGreatDoor
