import Derived.Test.YtljbnicolhhicaaGreatDoorZUB
set_option linter.defProp false
set_option maxHeartbeats 8000000
set_option maxRecDepth 100000
set_option linter.unusedVariables false
namespace Go.Proofs.YtljbnicolhhicaaGreatDoor
section
open Go.ChangeShapes Go.WideShapes Go.ChangeAt Go.RowKit
def pU(w:World)(r:Nat)(a b c q:Int):Prop:=w.cell? ⟨r,0,none⟩=some (.int .i64 a)/\w.cell? ⟨r,1,none⟩=some (.int .i64 b)/\w.cell? ⟨r,2,none⟩=some (.int .i64 c)/\w.cell? ⟨r,3,none⟩=some (.int .i64 q)/\(∀i,w.frozen? ⟨r,i,none⟩=false)/\r<w.1.size
theorem ji{w w':World}{g:Nat}{a b c q:Int}(h:pU w g a b c q)(hb:Below w.1.size w w'):pU w' g a b c q:=by
 obtain⟨h0,h1,h2,h3,hf,hs⟩:=h
 have c:=fun i=>hb.cell (p:=⟨g,i,none⟩) hs
 exact⟨(c 0).trans h0,(c 1).trans h1,(c 2).trans h2,(c 3).trans h3,fun i=>(hb.frozen (p:=⟨g,i,none⟩) hs).trans (hf i),Nat.lt_of_lt_of_le hs hb.size⟩
theorem lq{w w':World}{g g':Nat}{a b c q:Int}(h:pU w g a b c q)(hb:But g' w w')(hg:g≠g'):pU w' g a b c q:=by
 obtain⟨h0,h1,h2,h3,hf,hs⟩:=h
 have c:=fun i=>hb.cell (k:=g) (o:=i) hs hg
 exact⟨(c 0).trans h0,(c 1).trans h1,(c 2).trans h2,(c 3).trans h3,fun i=>(hb.frozen (k:=g) (o:=i) hs hg).trans (hf i),Nat.lt_of_lt_of_le hs hb.size⟩
theorem F9(y n:Int)(l:Bool)(d z k:Int)(h:Bool)(f:Int)(sv ev:Int)(w:World)(hT:Tab w 6 kevCells)(hL:Tab w 4 lenCells)(HS:Hid (∀w:World,Tab w 6 kevCells->Tab w 4 lenCells->vB 77 #[.agg #[.int .i64 (y),.int .i64 (n),.bool (l),.int .i64 (d)],.agg #[.int .i64 (z),.int .i64 (k),.bool (h),.int .i64 (f)],.int .i64 3] w (.agg #[.int .i64 y,.int .i64 n,.bool l,.int .i64 d,.int .i64 z,.int .i64 k,.bool h,.int .i64 f,.int .i64 (sv),.int .i64 (0),.int .i64 (0),.int .i64 (0),.int .i64 (0),.int .i64 (ev)])))(hne:¬ ev=0):
  vB 38 #[.agg #[.int .i64 (y),.int .i64 (n),.bool (l),.int .i64 (d)],.agg #[.int .i64 (z),.int .i64 (k),.bool (h),.int .i64 (f)],.int .i64 3] w (.tuple #[.agg #[.int .i64 (0),.int .i64 (0),.int .i64 (0),.int .i64 (0)],.int .i64 (ev)]):=by
 have hne2:(ev !=0)=true:=by simpa using hne
 have hw1:=hT.lt
 have hw2:=hL.lt
 go_enter (vF Tryz.func38),Tryz.ntmps38
 go_wp2_with fail
 refine bH (fun W=>pU W (w.1.size+1+1) 0 0 0 0/\Below w.1.size w W) ⟨⟨vG,vG,vG,vG,fun i=>by simp [go_sem],vS⟩,bel⟩ ?_
 rintro W0 ⟨hR0,hB0⟩
 refine(HS.out _ (Tab.below hT hB0) (Tab.below hL hB0)).mono ?_
 rintro e w1 ⟨rfl,hb1⟩
 have hR1:=ji hR0 hb1
 have hB1:=bt hB0 hb1
 go_wp2_with fail
 refine bH (fun W=>aS W w1.1.size y n l d z k h f (sv) 0 0 0 0 (ev)/\pU W (w.1.size+1+1) 0 0 0 0/\Below w.1.size w W) ⟨?_,ji hR1 bel,bt hB1 bel⟩ ?_
 ·first|exact dQ w1 y n l d z k h f (sv) 0 0 0 0 (ev) 120|exact jg (jJ (ku (kC (mH (oN (oF (nW (nQ (nM (nX (oM (nN (ow (dQ w1 0 0 false 0 0 0 false 0 0 0 0 0 0 0 120) _) _) _) _) _) _) _) _) _) _) _) _) _) _
 rintro W2 ⟨hP2,hR2,hB2⟩
 have hg:w.1.size+1+1<w1.1.size:=hR1.2.2.2.2.2
 have hT2:=Tab.below hT hB2
 have hL2:=Tab.below hL hB2
 clear hR0 hB0 hR1 hB1 hb1
 refine(Lj y n l d z k h f sv 0 0 0 0 ev hne w1.1.size _ hP2).mono ?_
 rintro e W3 ⟨rfl,hP3,hU3⟩
 have hR3:=lq hR2 hU3 vO
 have hB3:=hU3.below hB2 vO
 have hT3:=But.tab hT2 hU3 vO
 have hL3:=But.tab hL2 hU3 vO
 go_wp2_with fail
 refine(yF y n l d z k h f sv 0 0 0 0 ev hne w1.1.size _ hP3).mono ?_
 rintro e W4 ⟨rfl,hP4,hU4⟩
 have hR4:=lq hR3 hU4 vO
 have hB4:=hU4.below hB3 vO
 have hT4:=But.tab hT3 hU4 vO
 have hL4:=But.tab hL3 hU4 vO
 go_wp2_with fail
 refine(nG y n l d z k h f sv 0 0 0 0 ev hne w1.1.size _ hP4).mono ?_
 rintro e W5 ⟨rfl,hP5,hU5⟩
 have hR5:=lq hR4 hU5 vO
 have hB5:=hU5.below hB4 vO
 have hT5:=But.tab hT4 hU5 vO
 have hL5:=But.tab hL4 hU5 vO
 have hq:=hP5
 obtain⟨x0,x1,x2,x3,x4,x5,x6,x7,x8,x9,x10,x11,x12,x13,xf,xs⟩:=hq
 have hq:=hR5
 obtain⟨r0,r1,r2,r3,rf,rs⟩:=hq
 go_wp2_with fail
 go_region
 all_goals go_wp2_with fail
 all_goals refine bodyPost_ret (v:= .tuple #[.agg #[.int .i64 (0),.int .i64 (0),.int .i64 (0),.int .i64 (0)],.int .i64 (ev)]) (by simp [results,Tryz.results38,go_sem, *]) rfl ⟨rfl, ?_⟩
 all_goals repeat(first|(with_reducible assumption)|(with_reducible refine aT ?_)|(with_reducible refine bs ?_ (show w.1.size<=w.1.size+1+1 by omega) _))
theorem o9:(∀(y n:Int)(l:Bool)(d z k:Int)(h:Bool)(f:Int)(sv ev:Int)(w:World)(hT:Tab w 6 kevCells)(hL:Tab w 4 lenCells)(HS:Hid (∀w:World,Tab w 6 kevCells->Tab w 4 lenCells->vB 77 #[.agg #[.int .i64 (y),.int .i64 (n),.bool (l),.int .i64 (d)],.agg #[.int .i64 (z),.int .i64 (k),.bool (h),.int .i64 (f)],.int .i64 2] w (.agg #[.int .i64 y,.int .i64 n,.bool l,.int .i64 d,.int .i64 z,.int .i64 k,.bool h,.int .i64 f,.int .i64 (sv),.int .i64 (0),.int .i64 (0),.int .i64 (0),.int .i64 (0),.int .i64 (ev)])))(hne:¬ ev=0),vB 38 #[.agg #[.int .i64 (y),.int .i64 (n),.bool (l),.int .i64 (d)],.agg #[.int .i64 (z),.int .i64 (k),.bool (h),.int .i64 (f)],.int .i64 2] w (.tuple #[.agg #[.int .i64 (0),.int .i64 (0),.int .i64 (0),.int .i64 (0)],.int .i64 (ev)]))/\(∀(y n:Int)(l:Bool)(d z k:Int)(h:Bool)(f:Int)(sv ev:Int)(w:World)(hT:Tab w 6 kevCells)(hL:Tab w 4 lenCells)(HS:Hid (∀w:World,Tab w 6 kevCells->Tab w 4 lenCells->vB 77 #[.agg #[.int .i64 (y),.int .i64 (n),.bool (l),.int .i64 (d)],.agg #[.int .i64 (z),.int .i64 (k),.bool (h),.int .i64 (f)],.int .i64 1] w (.agg #[.int .i64 y,.int .i64 n,.bool l,.int .i64 d,.int .i64 z,.int .i64 k,.bool h,.int .i64 f,.int .i64 (sv),.int .i64 (0),.int .i64 (0),.int .i64 (0),.int .i64 (0),.int .i64 (ev)])))(hne:¬ ev=0),vB 38 #[.agg #[.int .i64 (y),.int .i64 (n),.bool (l),.int .i64 (d)],.agg #[.int .i64 (z),.int .i64 (k),.bool (h),.int .i64 (f)],.int .i64 1] w (.tuple #[.agg #[.int .i64 (0),.int .i64 (0),.int .i64 (0),.int .i64 (0)],.int .i64 (ev)])):=by
 refine⟨@fun y n l d z k h f sv ev w hT hL HS hne=>(fun(k90:Nat)=> ?_) 0,@fun y n l d z k h f sv ev w hT hL HS hne=> ?_⟩
 all_goals(
 have hne2:(ev !=0)=true:=by simpa using hne
 have hw1:=hT.lt
 have hw2:=hL.lt
 go_enter (vF Tryz.func38),Tryz.ntmps38
 go_wp2_with fail
 refine bH (fun W=>pU W (w.1.size+1+1) 0 0 0 0/\Below w.1.size w W) ⟨⟨vG,vG,vG,vG,fun i=>by simp [go_sem],vS⟩,bel⟩ ?_
 rintro W0 ⟨hR0,hB0⟩
 refine(HS.out _ (Tab.below hT hB0) (Tab.below hL hB0)).mono ?_
 rintro e w1 ⟨rfl,hb1⟩
 have hR1:=ji hR0 hb1
 have hB1:=bt hB0 hb1
 go_wp2_with fail
 refine bH (fun W=>aS W w1.1.size y n l d z k h f (sv) 0 0 0 0 (ev)/\pU W (w.1.size+1+1) 0 0 0 0/\Below w.1.size w W) ⟨?_,ji hR1 bel,bt hB1 bel⟩ ?_
 ·first|exact dQ w1 y n l d z k h f (sv) 0 0 0 0 (ev) 120|exact jg (jJ (ku (kC (mH (oN (oF (nW (nQ (nM (nX (oM (nN (ow (dQ w1 0 0 false 0 0 0 false 0 0 0 0 0 0 0 120) _) _) _) _) _) _) _) _) _) _) _) _) _) _
 rintro W2 ⟨hP2,hR2,hB2⟩
 have hg:w.1.size+1+1<w1.1.size:=hR1.2.2.2.2.2
 have hT2:=Tab.below hT hB2
 have hL2:=Tab.below hL hB2
 clear hR0 hB0 hR1 hB1 hb1
 first|(have _:=k90;refine(yF y n l d z k h f sv 0 0 0 0 ev hne w1.1.size _ hP2).mono ?_)|(refine(nG y n l d z k h f sv 0 0 0 0 ev hne w1.1.size _ hP2).mono ?_)
 rintro e W3 ⟨rfl,hP3,hU3⟩
 have hR3:=lq hR2 hU3 vO
 have hB3:=hU3.below hB2 vO
 have hT3:=But.tab hT2 hU3 vO
 have hL3:=But.tab hL2 hU3 vO
 go_wp2_with fail
 first|(have _:=k90;refine(nG y n l d z k h f sv 0 0 0 0 ev hne w1.1.size _ hP3).mono ?_)|(refine(Le y n l d z k h f sv 0 0 0 0 ev hne w1.1.size _ hP3).mono ?_)
 rintro e W4 ⟨rfl,hP4,hU4⟩
 have hR4:=lq hR3 hU4 vO
 have hB4:=hU4.below hB3 vO
 have hT4:=But.tab hT3 hU4 vO
 have hL4:=But.tab hL3 hU4 vO
 have hq:=hP4
 obtain⟨x0,x1,x2,x3,x4,x5,x6,x7,x8,x9,x10,x11,x12,x13,xf,xs⟩:=hq
 have hq:=hR4
 obtain⟨r0,r1,r2,r3,rf,rs⟩:=hq
 go_wp2_with fail
 go_region
 all_goals go_wp2_with fail
 all_goals refine bodyPost_ret (v:= .tuple #[.agg #[.int .i64 (0),.int .i64 (0),.int .i64 (0),.int .i64 (0)],.int .i64 (ev)]) (by simp [results,Tryz.results38,go_sem, *]) rfl ⟨rfl, ?_⟩
 all_goals repeat(first|(with_reducible assumption)|(with_reducible refine aT ?_)|(with_reducible refine bs ?_ (show w.1.size<=w.1.size+1+1 by omega) _))
 )
def FX:=o9.1
def Ga:=o9.2
theorem pq:(∀(y n:Int)(l:Bool)(d z k:Int)(h:Bool)(f:Int)(sv ev:Int)(w:World)(hT:Tab w 6 kevCells)(hL:Tab w 4 lenCells)(HS:Hid (∀w:World,Tab w 6 kevCells->Tab w 4 lenCells->vB 77 #[.agg #[.int .i64 (y),.int .i64 (n),.bool (l),.int .i64 (d)],.agg #[.int .i64 (z),.int .i64 (k),.bool (h),.int .i64 (f)],.int .i64 0] w (.agg #[.int .i64 y,.int .i64 n,.bool l,.int .i64 d,.int .i64 z,.int .i64 k,.bool h,.int .i64 f,.int .i64 (sv),.int .i64 (0),.int .i64 (0),.int .i64 (0),.int .i64 (0),.int .i64 (ev)])))(hne:¬ ev=0),vB 38 #[.agg #[.int .i64 (y),.int .i64 (n),.bool (l),.int .i64 (d)],.agg #[.int .i64 (z),.int .i64 (k),.bool (h),.int .i64 (f)],.int .i64 0] w (.tuple #[.agg #[.int .i64 (0),.int .i64 (0),.int .i64 (0),.int .i64 (0)],.int .i64 (ev)]))/\(∀(y n:Int)(l:Bool)(d z k:Int)(h:Bool)(f:Int)(sv ev:Int)(unit:Int)(w:World)(hT:Tab w 6 kevCells)(hL:Tab w 4 lenCells)(HS:Hid (∀w:World,Tab w 6 kevCells->Tab w 4 lenCells->vB 77 #[.agg #[.int .i64 (y),.int .i64 (n),.bool (l),.int .i64 (d)],.agg #[.int .i64 (z),.int .i64 (k),.bool (h),.int .i64 (f)],.int .i64 unit] w (.agg #[.int .i64 y,.int .i64 n,.bool l,.int .i64 d,.int .i64 z,.int .i64 k,.bool h,.int .i64 f,.int .i64 (sv),.int .i64 (0),.int .i64 (0),.int .i64 (0),.int .i64 (0),.int .i64 (ev)])))(hne:¬ ev=0)(u3:(unit==3)=false)(u2:(unit==2)=false)(u1:(unit==1)=false),vB 38 #[.agg #[.int .i64 (y),.int .i64 (n),.bool (l),.int .i64 (d)],.agg #[.int .i64 (z),.int .i64 (k),.bool (h),.int .i64 (f)],.int .i64 unit] w (.tuple #[.agg #[.int .i64 (0),.int .i64 (0),.int .i64 (0),.int .i64 (0)],.int .i64 (ev)])):=by
 refine⟨@fun y n l d z k h f sv ev w hT hL HS hne=> ?_,@fun y n l d z k h f sv ev unit w hT hL HS hne u3 u2 u1=> ?_⟩
 all_goals(
 have hne2:(ev !=0)=true:=by simpa using hne
 have hw1:=hT.lt
 have hw2:=hL.lt
 go_enter (vF Tryz.func38),Tryz.ntmps38
 go_wp2_with fail
 refine bH (fun W=>pU W (w.1.size+1+1) 0 0 0 0/\Below w.1.size w W) ⟨⟨vG,vG,vG,vG,fun i=>by simp [go_sem],vS⟩,bel⟩ ?_
 rintro W0 ⟨hR0,hB0⟩
 refine(HS.out _ (Tab.below hT hB0) (Tab.below hL hB0)).mono ?_
 rintro e w1 ⟨rfl,hb1⟩
 have hR1:=ji hR0 hb1
 have hB1:=bt hB0 hb1
 go_wp2_with fail
 refine bH (fun W=>aS W w1.1.size y n l d z k h f (sv) 0 0 0 0 (ev)/\pU W (w.1.size+1+1) 0 0 0 0/\Below w.1.size w W) ⟨?_,ji hR1 bel,bt hB1 bel⟩ ?_
 ·first|exact dQ w1 y n l d z k h f (sv) 0 0 0 0 (ev) 120|exact jg (jJ (ku (kC (mH (oN (oF (nW (nQ (nM (nX (oM (nN (ow (dQ w1 0 0 false 0 0 0 false 0 0 0 0 0 0 0 120) _) _) _) _) _) _) _) _) _) _) _) _) _) _
 rintro W2 ⟨hP2,hR2,hB2⟩
 have hg:w.1.size+1+1<w1.1.size:=hR1.2.2.2.2.2
 have hT2:=Tab.below hT hB2
 have hL2:=Tab.below hL hB2
 clear hR0 hB0 hR1 hB1 hb1
 refine(nG y n l d z k h f sv 0 0 0 0 ev hne w1.1.size _ hP2).mono ?_
 rintro e W3 ⟨rfl,hP3,hU3⟩
 have hR3:=lq hR2 hU3 vO
 have hB3:=hU3.below hB2 vO
 have hT3:=But.tab hT2 hU3 vO
 have hL3:=But.tab hL2 hU3 vO
 have hq:=hP3
 obtain⟨x0,x1,x2,x3,x4,x5,x6,x7,x8,x9,x10,x11,x12,x13,xf,xs⟩:=hq
 have hq:=hR3
 obtain⟨r0,r1,r2,r3,rf,rs⟩:=hq
 go_wp2_with fail
 go_region
 all_goals go_wp2_with fail
 all_goals refine bodyPost_ret (v:= .tuple #[.agg #[.int .i64 (0),.int .i64 (0),.int .i64 (0),.int .i64 (0)],.int .i64 (ev)]) (by simp [results,Tryz.results38,go_sem, *]) rfl ⟨rfl, ?_⟩
 all_goals repeat(first|(with_reducible assumption)|(with_reducible refine aT ?_)|(with_reducible refine bs ?_ (show w.1.size<=w.1.size+1+1 by omega) _))
 )
def Gt:=pq.1
def F4:=pq.2
theorem uE:(∀(y n:Int)(l:Bool)(d z k:Int)(h:Bool)(f:Int)(ry rn:Int)(rl:Bool)(rd D1 D2 s:Int)(w:World)(hT:Tab w 6 kevCells)(hL:Tab w 4 lenCells)(HS:Hid (∀w:World,Tab w 6 kevCells->Tab w 4 lenCells->vB 77 #[.agg #[.int .i64 (y),.int .i64 (n),.bool (l),.int .i64 (d)],.agg #[.int .i64 (z),.int .i64 (k),.bool (h),.int .i64 (f)],.int .i64 1] w (.agg #[.int .i64 y,.int .i64 n,.bool l,.int .i64 d,.int .i64 z,.int .i64 k,.bool h,.int .i64 f,.int .i64 (s),.int .i64 (0),.int .i64 (0),.int .i64 (0),.int .i64 (0),.int .i64 (0)])))(HA:Hid (∀w:World,Tab w 6 kevCells->Tab w 4 lenCells->vB 36 #[.agg #[.int .i64 (y),.int .i64 (n),.bool (l),.int .i64 (d)],.agg #[.int .i64 (0),.int .i64 (0),.int .i64 (0),.int .i64 (0)],.int .i64 0] w (.tuple #[.agg #[.int .i64 (ry),.int .i64 (rn),.bool (rl),.int .i64 (rd)],.int .i64 (0)])))(HX:Hid (∀w:World,Tab w 6 kevCells->Tab w 4 lenCells->vB 29 #[.agg #[.int .i64 (ry),.int .i64 (rn),.bool (rl),.int .i64 (rd)]] w (.tuple #[.int .i64 (D1),.int .i64 0])))(HY:Hid (∀w:World,Tab w 6 kevCells->Tab w 4 lenCells->vB 29 #[.agg #[.int .i64 (z),.int .i64 (k),.bool (h),.int .i64 (f)]] w (.tuple #[.int .i64 (D2),.int .i64 0])))(h1: -3000000<=D1/\D1<=3000000)(h2: -3000000<=D2/\D2<=3000000),vB 38 #[.agg #[.int .i64 (y),.int .i64 (n),.bool (l),.int .i64 (d)],.agg #[.int .i64 (z),.int .i64 (k),.bool (h),.int .i64 (f)],.int .i64 1] w (.tuple #[.agg #[.int .i64 (0),.int .i64 (0),.int .i64 ((D2-D1).tdiv 7),.int .i64 ((D2-D1).tmod 7)],.int .i64 (0)]))/\(∀(y n:Int)(l:Bool)(d z k:Int)(h:Bool)(f:Int)(ry rn:Int)(rl:Bool)(rd D1 D2 s:Int)(K:Nat)(w:World)(hT:Tab w 6 kevCells)(hL:Tab w 4 lenCells)(HS:Hid (∀w:World,Tab w 6 kevCells->Tab w 4 lenCells->vB 77 #[.agg #[.int .i64 (y),.int .i64 (n),.bool (l),.int .i64 (d)],.agg #[.int .i64 (z),.int .i64 (k),.bool (h),.int .i64 (f)],.int .i64 2] w (.agg #[.int .i64 y,.int .i64 n,.bool l,.int .i64 d,.int .i64 z,.int .i64 k,.bool h,.int .i64 f,.int .i64 (s),.int .i64 (0),.int .i64 (0),.int .i64 (0),.int .i64 (0),.int .i64 (0)])))(hy:I64 y)(ht:D10.aK z k h f=0)(hs:s=1∨s= -1)(hk:K<=200000)(md:Hid (∀i:Nat,i<=K->U17.fit y n l d 0 (s*(i:Int)) s (D10.aM z k h f)=true))(mu:Hid (∀i:Nat,K<i->U17.fit y n l d 0 (s*(i:Int)) s (D10.aM z k h f)=false))(HA:Hid (∀w:World,Tab w 6 kevCells->Tab w 4 lenCells->vB 36 #[.agg #[.int .i64 (y),.int .i64 (n),.bool (l),.int .i64 (d)],.agg #[.int .i64 (0),.int .i64 (s*(K:Int)),.int .i64 (0),.int .i64 (0)],.int .i64 0] w (.tuple #[.agg #[.int .i64 (ry),.int .i64 (rn),.bool (rl),.int .i64 (rd)],.int .i64 (0)])))(HX:Hid (∀w:World,Tab w 6 kevCells->Tab w 4 lenCells->vB 29 #[.agg #[.int .i64 (ry),.int .i64 (rn),.bool (rl),.int .i64 (rd)]] w (.tuple #[.int .i64 (D1),.int .i64 0])))(HY:Hid (∀w:World,Tab w 6 kevCells->Tab w 4 lenCells->vB 29 #[.agg #[.int .i64 (z),.int .i64 (k),.bool (h),.int .i64 (f)]] w (.tuple #[.int .i64 (D2),.int .i64 0])))(h1: -3000000<=D1/\D1<=3000000)(h2: -3000000<=D2/\D2<=3000000),vB 38 #[.agg #[.int .i64 (y),.int .i64 (n),.bool (l),.int .i64 (d)],.agg #[.int .i64 (z),.int .i64 (k),.bool (h),.int .i64 (f)],.int .i64 2] w (.tuple #[.agg #[.int .i64 (0),.int .i64 (s*(K:Int)),.int .i64 (0),.int .i64 (D2-D1)],.int .i64 (0)])):=by
 refine⟨@fun y n l d z k h f ry rn rl rd D1 D2 s w hT hL HS HA HX HY h1 h2=>(fun(k90:Nat)=> ?_) 0,@fun y n l d z k h f ry rn rl rd D1 D2 s K w hT hL HS hy ht hs hk md mu HA HX HY h1 h2=> ?_⟩
 all_goals(
 obtain⟨h11,h12⟩:=h1
 obtain⟨h21,h22⟩:=h2
 have hw1:=hT.lt
 have hw2:=hL.lt
 go_enter (vF Tryz.func38),Tryz.ntmps38
 go_wp2_with fail
 refine bH (fun W=>pU W (w.1.size+1+1) 0 0 0 0/\Below w.1.size w W) ⟨⟨vG,vG,vG,vG,fun i=>by simp [go_sem],vS⟩,bel⟩ ?_
 rintro W0 ⟨hR0,hB0⟩
 refine(HS.out _ (Tab.below hT hB0) (Tab.below hL hB0)).mono ?_
 rintro e w1 ⟨rfl,hb1⟩
 have hR1:=ji hR0 hb1
 have hB1:=bt hB0 hb1
 go_wp2_with fail
 refine bH (fun W=>aS W w1.1.size y n l d z k h f (s) 0 0 0 0 (0)/\pU W (w.1.size+1+1) 0 0 0 0/\Below w.1.size w W) ⟨?_,ji hR1 bel,bt hB1 bel⟩ ?_
 ·first|exact dQ w1 y n l d z k h f (s) 0 0 0 0 (0) 120|exact jg (jJ (ku (kC (mH (oN (oF (nW (nQ (nM (nX (oM (nN (ow (dQ w1 0 0 false 0 0 0 false 0 0 0 0 0 0 0 120) _) _) _) _) _) _) _) _) _) _) _) _) _) _
 rintro W2 ⟨hP2,hR2,hB2⟩
 have hg:w.1.size+1+1<w1.1.size:=hR1.2.2.2.2.2
 have hT2:=Tab.below hT hB2
 have hL2:=Tab.below hL hB2
 clear hR0 hB0 hR1 hB1 hb1
 first|(have _:=k90;refine(qd y n l d z k h f s 0 0 0 0 0 ry rn rl rd D1 D2 w1.1.size _ hT2 hL2 HA HX HY ⟨vO,vO⟩ ⟨vO,vO⟩ hP2).mono ?_)|(refine(Jf y n l d z k h f s 0 0 0 0 0 K w1.1.size _ hT2 hL2 hy ht hs hk md.out mu.out hP2).mono ?_)
 rintro e W3 ⟨rfl,hP3,hU3⟩
 have hR3:=lq hR2 hU3 vO
 have hB3:=hU3.below hB2 vO
 have hT3:=But.tab hT2 hU3 vO
 have hL3:=But.tab hL2 hU3 vO
 go_wp2_with fail
 first|(have _:=k90;refine(Wh y n l d z k h f s 0 0 0 (D2-D1) 0 w1.1.size _ vO vO hP3).mono ?_)|(refine(qd y n l d z k h f s 0 (s*(K:Int)) 0 0 0 ry rn rl rd D1 D2 w1.1.size _ hT3 hL3 HA HX HY ⟨vO,vO⟩ ⟨vO,vO⟩ hP3).mono ?_)
 rintro e W4 ⟨rfl,hP4,hU4⟩
 have hR4:=lq hR3 hU4 vO
 have hB4:=hU4.below hB3 vO
 have hT4:=But.tab hT3 hU4 vO
 have hL4:=But.tab hL3 hU4 vO
 have hq:=hP4
 obtain⟨x0,x1,x2,x3,x4,x5,x6,x7,x8,x9,x10,x11,x12,x13,xf,xs⟩:=hq
 have hq:=hR4
 obtain⟨r0,r1,r2,r3,rf,rs⟩:=hq
 go_wp2_with fail
 first|(have _:=k90;refine bodyPost_ret (v:= .tuple #[.agg #[.int .i64 (0),.int .i64 (0),.int .i64 ((D2-D1).tdiv 7),.int .i64 ((D2-D1).tmod 7)],.int .i64 (0)]) (by simp [results,Tryz.results38,go_sem, *]) rfl ⟨rfl, ?_⟩)|(refine bodyPost_ret (v:= .tuple #[.agg #[.int .i64 (0),.int .i64 (s*(K:Int)),.int .i64 (0),.int .i64 (D2-D1)],.int .i64 (0)]) (by simp [results,Tryz.results38,go_sem, *]) rfl ⟨rfl, ?_⟩)
 iterate 4 refine Below.setCell ?_ (show w.1.size<=w.1.size+1+1 by omega) _
 exact hB4
 )
def Kh:=uE.1
def J8:=uE.2
theorem uP:(∀(y n:Int)(l:Bool)(d z k:Int)(h:Bool)(f:Int)(ry rn:Int)(rl:Bool)(rd D1 D2 s:Int)(w:World)(hT:Tab w 6 kevCells)(hL:Tab w 4 lenCells)(HS:Hid (∀w:World,Tab w 6 kevCells->Tab w 4 lenCells->vB 77 #[.agg #[.int .i64 (y),.int .i64 (n),.bool (l),.int .i64 (d)],.agg #[.int .i64 (z),.int .i64 (k),.bool (h),.int .i64 (f)],.int .i64 0] w (.agg #[.int .i64 y,.int .i64 n,.bool l,.int .i64 d,.int .i64 z,.int .i64 k,.bool h,.int .i64 f,.int .i64 (s),.int .i64 (0),.int .i64 (0),.int .i64 (0),.int .i64 (0),.int .i64 (0)])))(HA:Hid (∀w:World,Tab w 6 kevCells->Tab w 4 lenCells->vB 36 #[.agg #[.int .i64 (y),.int .i64 (n),.bool (l),.int .i64 (d)],.agg #[.int .i64 (0),.int .i64 (0),.int .i64 (0),.int .i64 (0)],.int .i64 0] w (.tuple #[.agg #[.int .i64 (ry),.int .i64 (rn),.bool (rl),.int .i64 (rd)],.int .i64 (0)])))(HX:Hid (∀w:World,Tab w 6 kevCells->Tab w 4 lenCells->vB 29 #[.agg #[.int .i64 (ry),.int .i64 (rn),.bool (rl),.int .i64 (rd)]] w (.tuple #[.int .i64 (D1),.int .i64 0])))(HY:Hid (∀w:World,Tab w 6 kevCells->Tab w 4 lenCells->vB 29 #[.agg #[.int .i64 (z),.int .i64 (k),.bool (h),.int .i64 (f)]] w (.tuple #[.int .i64 (D2),.int .i64 0])))(h1: -3000000<=D1/\D1<=3000000)(h2: -3000000<=D2/\D2<=3000000),vB 38 #[.agg #[.int .i64 (y),.int .i64 (n),.bool (l),.int .i64 (d)],.agg #[.int .i64 (z),.int .i64 (k),.bool (h),.int .i64 (f)],.int .i64 0] w (.tuple #[.agg #[.int .i64 (0),.int .i64 (0),.int .i64 (0),.int .i64 (D2-D1)],.int .i64 (0)]))/\(∀(y n:Int)(l:Bool)(d z k:Int)(h:Bool)(f:Int)(ry rn:Int)(rl:Bool)(rd D1 D2 s:Int)(J K:Nat)(w:World)(hT:Tab w 6 kevCells)(hL:Tab w 4 lenCells)(HS:Hid (∀w:World,Tab w 6 kevCells->Tab w 4 lenCells->vB 77 #[.agg #[.int .i64 (y),.int .i64 (n),.bool (l),.int .i64 (d)],.agg #[.int .i64 (z),.int .i64 (k),.bool (h),.int .i64 (f)],.int .i64 3] w (.agg #[.int .i64 y,.int .i64 n,.bool l,.int .i64 d,.int .i64 z,.int .i64 k,.bool h,.int .i64 f,.int .i64 (s),.int .i64 (0),.int .i64 (0),.int .i64 (0),.int .i64 (0),.int .i64 (0)])))(hy:I64 y)(ht:D10.aK z k h f=0)(hs:s=1∨s= -1)(hj:J<=200000)(hk:K<=200000)(yd:Hid (∀i:Nat,i<=J->U17.fit y n l d (s*(i:Int)) 0 s (D10.aM z k h f)=true))(yu:Hid (∀i:Nat,J<i->U17.fit y n l d (s*(i:Int)) 0 s (D10.aM z k h f)=false))(md:Hid (∀i:Nat,i<=K->U17.fit y n l d (s*(J:Int)) (s*(i:Int)) s (D10.aM z k h f)=true))(mu:Hid (∀i:Nat,K<i->U17.fit y n l d (s*(J:Int)) (s*(i:Int)) s (D10.aM z k h f)=false))(HA:Hid (∀w:World,Tab w 6 kevCells->Tab w 4 lenCells->vB 36 #[.agg #[.int .i64 (y),.int .i64 (n),.bool (l),.int .i64 (d)],.agg #[.int .i64 (s*(J:Int)),.int .i64 (s*(K:Int)),.int .i64 (0),.int .i64 (0)],.int .i64 0] w (.tuple #[.agg #[.int .i64 (ry),.int .i64 (rn),.bool (rl),.int .i64 (rd)],.int .i64 (0)])))(HX:Hid (∀w:World,Tab w 6 kevCells->Tab w 4 lenCells->vB 29 #[.agg #[.int .i64 (ry),.int .i64 (rn),.bool (rl),.int .i64 (rd)]] w (.tuple #[.int .i64 (D1),.int .i64 0])))(HY:Hid (∀w:World,Tab w 6 kevCells->Tab w 4 lenCells->vB 29 #[.agg #[.int .i64 (z),.int .i64 (k),.bool (h),.int .i64 (f)]] w (.tuple #[.int .i64 (D2),.int .i64 0])))(h1: -3000000<=D1/\D1<=3000000)(h2: -3000000<=D2/\D2<=3000000),vB 38 #[.agg #[.int .i64 (y),.int .i64 (n),.bool (l),.int .i64 (d)],.agg #[.int .i64 (z),.int .i64 (k),.bool (h),.int .i64 (f)],.int .i64 3] w (.tuple #[.agg #[.int .i64 (s*(J:Int)),.int .i64 (s*(K:Int)),.int .i64 (0),.int .i64 (D2-D1)],.int .i64 (0)])):=by
 refine⟨@fun y n l d z k h f ry rn rl rd D1 D2 s w hT hL HS HA HX HY h1 h2=>(fun(k90:Nat)=> ?_) 0,@fun y n l d z k h f ry rn rl rd D1 D2 s J K w hT hL HS hy ht hs hj hk yd yu md mu HA HX HY h1 h2=> ?_⟩
 all_goals(
 obtain⟨h11,h12⟩:=h1
 obtain⟨h21,h22⟩:=h2
 have hw1:=hT.lt
 have hw2:=hL.lt
 go_enter (vF Tryz.func38),Tryz.ntmps38
 go_wp2_with fail
 refine bH (fun W=>pU W (w.1.size+1+1) 0 0 0 0/\Below w.1.size w W) ⟨⟨vG,vG,vG,vG,fun i=>by simp [go_sem],vS⟩,bel⟩ ?_
 rintro W0 ⟨hR0,hB0⟩
 refine(HS.out _ (Tab.below hT hB0) (Tab.below hL hB0)).mono ?_
 rintro e w1 ⟨rfl,hb1⟩
 have hR1:=ji hR0 hb1
 have hB1:=bt hB0 hb1
 go_wp2_with fail
 refine bH (fun W=>aS W w1.1.size y n l d z k h f (s) 0 0 0 0 (0)/\pU W (w.1.size+1+1) 0 0 0 0/\Below w.1.size w W) ⟨?_,ji hR1 bel,bt hB1 bel⟩ ?_
 ·first|exact dQ w1 y n l d z k h f (s) 0 0 0 0 (0) 120|exact jg (jJ (ku (kC (mH (oN (oF (nW (nQ (nM (nX (oM (nN (ow (dQ w1 0 0 false 0 0 0 false 0 0 0 0 0 0 0 120) _) _) _) _) _) _) _) _) _) _) _) _) _) _
 rintro W2 ⟨hP2,hR2,hB2⟩
 have hg:w.1.size+1+1<w1.1.size:=hR1.2.2.2.2.2
 have hT2:=Tab.below hT hB2
 have hL2:=Tab.below hL hB2
 clear hR0 hB0 hR1 hB1 hb1
 first|(have _:=k90;refine(qd y n l d z k h f s 0 0 0 0 0 ry rn rl rd D1 D2 w1.1.size _ hT2 hL2 HA HX HY ⟨vO,vO⟩ ⟨vO,vO⟩ hP2).mono ?_)|(refine(VE y n l d z k h f s 0 0 0 0 0 J w1.1.size _ hT2 hL2 hy ht hs hj yd.out yu.out hP2).mono ?_)
 rintro e W3 ⟨rfl,hP3,hU3⟩
 have hR3:=lq hR2 hU3 vO
 have hB3:=hU3.below hB2 vO
 have hT3:=But.tab hT2 hU3 vO
 have hL3:=But.tab hL2 hU3 vO
 first|(have _:=k90;have hq:=hP3)|((go_wp2_with fail);(refine(Jf y n l d z k h f s (s*(J:Int)) 0 0 0 0 K w1.1.size _ hT3 hL3 hy ht hs hk md.out mu.out hP3).mono ?_);(rintro e W4 ⟨rfl,hP4,hU4⟩);(have hR4:=lq hR3 hU4 vO);(have hB4:=hU4.below hB3 vO);(have hT4:=But.tab hT3 hU4 vO);(have hL4:=But.tab hL3 hU4 vO);(go_wp2_with fail);(refine(qd y n l d z k h f s (s*(J:Int)) (s*(K:Int)) 0 0 0 ry rn rl rd D1 D2 w1.1.size _ hT4 hL4 HA HX HY ⟨vO,vO⟩ ⟨vO,vO⟩ hP4).mono ?_);(rintro e W5 ⟨rfl,hP5,hU5⟩);(have hR5:=lq hR4 hU5 vO);(have hB5:=hU5.below hB4 vO);(have hT5:=But.tab hT4 hU5 vO);(have hL5:=But.tab hL4 hU5 vO);(have hq:=hP5))
 obtain⟨x0,x1,x2,x3,x4,x5,x6,x7,x8,x9,x10,x11,x12,x13,xf,xs⟩:=hq
 first|(have _:=k90;have hq:=hR3)|(have hq:=hR5)
 obtain⟨r0,r1,r2,r3,rf,rs⟩:=hq
 go_wp2_with fail
 first|(have _:=k90;refine bodyPost_ret (v:= .tuple #[.agg #[.int .i64 (0),.int .i64 (0),.int .i64 (0),.int .i64 (D2-D1)],.int .i64 (0)]) (by simp [results,Tryz.results38,go_sem, *]) rfl ⟨rfl, ?_⟩)|(refine bodyPost_ret (v:= .tuple #[.agg #[.int .i64 (s*(J:Int)),.int .i64 (s*(K:Int)),.int .i64 (0),.int .i64 (D2-D1)],.int .i64 (0)]) (by simp [results,Tryz.results38,go_sem, *]) rfl ⟨rfl, ?_⟩)
 iterate 4 refine Below.setCell ?_ (show w.1.size<=w.1.size+1+1 by omega) _
 first|(have _:=k90;exact hB3)|(exact hB5)
 )
def K7:=uP.1
def Kw:=uP.2
end
section
open Go.ChangeShapes Go.WideShapes Go.ChangeAt Go.RowKit
namespace U17
def DIs(y n:Int)(l:Bool)(d z k:Int)(h:Bool)(f:Int)(unit va vb vc vq er:Int):Prop:=
 (¬ (0<=unit/\unit<=3)/\er=1/\va=0/\vb=0/\vc=0/\vq=0)∨
 ((0<=unit/\unit<=3)/\er=(if D10.aK y n l d=0 then D10.aK z k h f else D10.aK y n l d)/\¬ er=0/\va=0/\vb=0/\vc=0/\vq=0)∨
 ((0<=unit/\unit<=3)/\D10.aK y n l d=0/\D10.aK z k h f=0/\er=0/\Is y n l d (D10.aM y n l d) (D10.aM z k h f) unit va vb vc vq)
theorem abU(y n:Int)(l:Bool)(d z k:Int)(h:Bool)(f:Int)(unit:Int):∃va vb vc vq er,DIs y n l d z k h f unit va vb vc vq er:=by
 by_cases hu:0<=unit/\unit<=3
 ·by_cases ha:D10.aK y n l d=0
  ·by_cases hb:D10.aK z k h f=0
   ·obtain⟨a,b,c,q,hI⟩:=Ac (B:=D10.aM z k h f) ha hu.1 hu.2
    exact⟨a,b,c,q,0,.inr (.inr ⟨hu,ha,hb,rfl,hI⟩)⟩
   ·exact⟨0,0,0,0,_,.inr (.inl ⟨hu,(if_pos ha).symm,hb,rfl,rfl,rfl,rfl⟩)⟩
  ·exact⟨0,0,0,0,_,.inr (.inl ⟨hu,(if_neg ha).symm,ha,rfl,rfl,rfl,rfl⟩)⟩
 ·exact⟨0,0,0,0,1,.inl ⟨hu,rfl,rfl,rfl,rfl,rfl⟩⟩
theorem XP{y n d a b s B:Int}{l:Bool}(h:fit y n l d a b s B=true):A16.toE y n l d a b 0 0 0=0:=by
 unfold fit at h
 simp only [Bool.and_eq_true,decide_eq_true_eq]at h
 exact h.1
theorem IB{p:Nat->Bool}{K:Nat}(hd:∀{j k:Nat},j<=k->p k=true->p j=true)(hK:p (K+1)=false):∀i:Nat,K<i->p i=false:=by
 intro i hi
 cases c:p i
 ·rfl
 ·rw [hd (show K+1<=i from hi) c]at hK;cases hK
theorem small{p:Nat->Bool}{K N:Nat}(hK:p K=true)(hn:∀{k:Nat},N<=k->p k=false):K<N:=by
 rcases Nat.lt_or_ge K N with c|c
 ·exact c
 ·rw [hn c]at hK;cases hK
end U17
theorem zP(y n:Int)(l:Bool)(d a b:Int)(hy:I64 y)(h:A16.toE y n l d a b 0 0 0=0):∃ (ry rn:Int) (rl:Bool) (rd:Int),D10.aK ry rn rl rd=0/\D10.aM ry rn rl rd=A16.day y n l d a b 0 0 0/\I64 ry/\
  ∀w:World,Tab w 6 kevCells->Tab w 4 lenCells->vB 36 #[.agg #[.int .i64 (y),.int .i64 (n),.bool (l),.int .i64 (d)],.agg #[.int .i64 (a),.int .i64 (b),.int .i64 (0),.int .i64 (0)],.int .i64 0] w (.tuple #[.agg #[.int .i64 (ry),.int .i64 (rn),.bool (rl),.int .i64 (rd)],.int .i64 (0)]):=by
 obtain⟨ry,rn,rl,rd,er,hto⟩:=A16.O1 y n l d a b 0 0 0
 obtain⟨rfl,r1,r2,r3,r4⟩:=hto.date h
 exact⟨ry,rn,rl,rd,r1,r2,⟨vO,vO⟩,fun w hT hL=>Ui y n l d a b 0 0 0 w hy hT hL ry rn rl rd 0 (Lib.hid hto)⟩
theorem kT(y n:Int)(l:Bool)(d:Int)(hy:I64 y)(h:D10.aK y n l d=0)(D:Int)(hD:D10.aM y n l d=D):∀w:World,Tab w 6 kevCells->Tab w 4 lenCells->vB 29 #[.agg #[.int .i64 (y),.int .i64 (n),.bool (l),.int .i64 (d)]] w (.tuple #[.int .i64 (D),.int .i64 0]):=by
 intro w hT hL
 have:=lW y n l d w hy hT hL
 rwa [h,hD]at this
theorem yQ(y n:Int)(l:Bool)(d z k:Int)(h:Bool)(f:Int)(unit sv ev:Int)(hy:I64 y)(hz:I64 z)(hu:0<=unit/\unit<=3)(hs:sv=if D10.kN z k h f y n l d then -1 else 1)(he:ev=if D10.aK y n l d=0 then D10.aK z k h f else D10.aK y n l d)(w:World)(hT:Tab w 6 kevCells)(hL:Tab w 4 lenCells):
  vB 77 #[.agg #[.int .i64 (y),.int .i64 (n),.bool (l),.int .i64 (d)],.agg #[.int .i64 (z),.int .i64 (k),.bool (h),.int .i64 (f)],.int .i64 unit] w (.agg #[.int .i64 y,.int .i64 n,.bool l,.int .i64 d,.int .i64 z,.int .i64 k,.bool h,.int .i64 f,.int .i64 (sv),.int .i64 (0),.int .i64 (0),.int .i64 (0),.int .i64 (0),.int .i64 (ev)]):=by
 have HC1:=Lib.hid (fun w hT hL=>je y n l d w hy hT hL)
 have HC2:=Lib.hid (fun w hT hL=>je z k h f w hz hT hL)
 have HL2:=Lib.hid (fun w=>Jy z k h f y n l d w)
 by_cases ha:D10.aK y n l d=0
 ·rw [if_pos ha]at he
  rw [ha]at HC1
  subst he
  cases hl:D10.kN z k h f y n l d
  ·rw [hl]at HL2 hs
   rw [show sv=1 from hs]
   exact u7 y n l d z k h f unit _ w hT hL HC1 HC2 HL2 hu
  ·rw [hl]at HL2 hs
   rw [show sv= -1 from hs]
   exact Ai y n l d z k h f unit _ w hT hL HC1 HC2 HL2 hu
 ·rw [if_neg ha]at he
  subst he
  cases hl:D10.kN z k h f y n l d
  ·rw [hl]at HL2 hs
   rw [show sv=1 from hs]
   exact zx y n l d z k h f unit _ w hT hL HC1 HL2 (by simpa using ha) (by simpa using ha) hu
  ·rw [hl]at HL2 hs
   rw [show sv= -1 from hs]
   exact Af y n l d z k h f unit _ w hT hL HC1 HL2 (by simpa using ha) (by simpa using ha) hu
theorem Tq(y n:Int)(l:Bool)(d z k:Int)(h:Bool)(f:Int)(unit:Int)(w:World)(hy:I64 y)(hz:I64 z)(hT:Tab w 6 kevCells)(hL:Tab w 4 lenCells)(va vb vc vq er:Int)(hres:Hid (U17.DIs y n l d z k h f unit va vb vc vq er)):
  vB 38 #[.agg #[.int .i64 (y),.int .i64 (n),.bool (l),.int .i64 (d)],.agg #[.int .i64 (z),.int .i64 (k),.bool (h),.int .i64 (f)],.int .i64 unit] w (.tuple #[.agg #[.int .i64 (va),.int .i64 (vb),.int .i64 (vc),.int .i64 (vq)],.int .i64 (er)]):=by
 rcases hres.out with ⟨hu,rfl,rfl,rfl,rfl,rfl⟩|⟨hu,he,hne,rfl,rfl,rfl,rfl⟩|⟨hu,ha,hb,rfl,hI⟩
 ·have HS:Hid (∀w:World,Tab w 6 kevCells->Tab w 4 lenCells->vB 77 #[.agg #[.int .i64 (y),.int .i64 (n),.bool (l),.int .i64 (d)],.agg #[.int .i64 (z),.int .i64 (k),.bool (h),.int .i64 (f)],.int .i64 unit] w (.agg #[.int .i64 y,.int .i64 n,.bool l,.int .i64 d,.int .i64 z,.int .i64 k,.bool h,.int .i64 f,.int .i64 (1),.int .i64 (0),.int .i64 (0),.int .i64 (0),.int .i64 (0),.int .i64 (1)])):=Lib.hid (fun w _ _=>by
   by_cases c:unit<0
   ·exact Gi y n l d z k h f unit w c
   ·exact D6 y n l d z k h f unit w vO vO)
  exact F4 y n l d z k h f 1 1 unit w hT hL HS vD (by simpa using(show ¬ unit=3 by omega)) (by simpa using(show ¬ unit=2 by omega)) (by simpa using(show ¬ unit=1 by omega))
 ·have HS:=Lib.hid (fun w hT hL=>yQ y n l d z k h f unit _ er hy hz hu rfl he w hT hL)
  generalize (if D10.kN z k h f y n l d then(-1:Int)else 1)=sv at*
  rcases(show unit=0∨unit=1∨unit=2∨unit=3 by omega)with rfl|rfl|rfl|rfl
  ·exact Gt y n l d z k h f sv er w hT hL HS hne
  ·exact Ga y n l d z k h f sv er w hT hL HS hne
  ·exact FX y n l d z k h f sv er w hT hL HS hne
  ·exact F9 y n l d z k h f sv er w hT hL HS hne
 ·have HS:=Lib.hid (fun w hT hL=>yQ y n l d z k h f unit (U17.sg (D10.aM y n l d) (D10.aM z k h f)) 0 hy hz hu (by rw [D10.JR hb ha];unfold U17.sg;simp) (by rw [if_pos ha,hb]) w hT hL)
  have hsg:=U17.aaL (D10.aM y n l d) (D10.aM z k h f)
  obtain⟨_,a1,a2⟩:=D10.qg y n l d ha
  obtain⟨_,b1,b2⟩:=D10.qg z k h f hb
  have HY:=Lib.hid (kT z k h f hz hb _ rfl)
  rcases hI with ⟨rfl,rfl,rfl,rfl,rfl⟩|⟨rfl,rfl,rfl,rfl,rfl⟩|⟨rfl,rfl,rfl,rfl,K,rfl,q0,qk,qk1⟩|⟨rfl,rfl,rfl,J,K,rfl,pj,pj1,rfl,q0,qk,qk1⟩
  ·obtain⟨e1,e2⟩:=A16.MV (c:=0) (f:=0) (m:=0) ha rfl rfl
   rw [if_neg (by unfold A16.out;omega)]at e2
   obtain⟨ry,rn,rl,rd,r1,r2,r3,HA⟩:=zP y n l d 0 0 hy e2
   have HX:=Lib.hid (kT ry rn rl rd r3 r1 (D10.aM y n l d) (by rw [r2,e1];omega))
   exact K7 y n l d z k h f ry rn rl rd _ _ _ w hT hL HS (Lib.hid HA) HX HY ⟨vO,vO⟩ ⟨vO,vO⟩
  ·obtain⟨e1,e2⟩:=A16.MV (c:=0) (f:=0) (m:=0) ha rfl rfl
   rw [if_neg (by unfold A16.out;omega)]at e2
   obtain⟨ry,rn,rl,rd,r1,r2,r3,HA⟩:=zP y n l d 0 0 hy e2
   have HX:=Lib.hid (kT ry rn rl rd r3 r1 (D10.aM y n l d) (by rw [r2,e1];omega))
   exact Kh y n l d z k h f ry rn rl rd _ _ _ w hT hL HS (Lib.hid HA) HX HY ⟨vO,vO⟩ ⟨vO,vO⟩
  ·have hK:=U17.small (p:=U17.Q y n l d 0 (U17.sg (D10.aM y n l d) (D10.aM z k h f)) (D10.aM z k h f)) qk (fun hk=>U17.Q_no ha hsg hk)
   have ht:=U17.XP (show U17.fit y n l d 0 ((U17.sg (D10.aM y n l d) (D10.aM z k h f))*(K:Int)) (U17.sg (D10.aM y n l d) (D10.aM z k h f)) (D10.aM z k h f)=true from qk)
   obtain⟨ry,rn,rl,rd,r1,r2,r3,HA⟩:=zP y n l d 0 ((U17.sg (D10.aM y n l d) (D10.aM z k h f))*(K:Int)) hy ht
   obtain⟨_,d1,d2⟩:=D10.qg ry rn rl rd r1
   have HX:=Lib.hid (kT ry rn rl rd r3 r1 _ r2)
   rw [r2]at d1 d2
   exact J8 y n l d z k h f ry rn rl rd _ _ _ K w hT hL HS hy hb hsg vO (Lib.hid (fun i hi=>U17.MP ha hsg q0 hi qk)) (Lib.hid (U17.IB (p:=U17.Q y n l d 0 (U17.sg (D10.aM y n l d) (D10.aM z k h f)) (D10.aM z k h f)) (fun hjk hk=>U17.MP ha hsg q0 hjk hk) qk1)) (Lib.hid HA) HX HY ⟨vO,vO⟩ ⟨vO,vO⟩
  ·have hJ:=U17.small (p:=U17.P y n l d (U17.sg (D10.aM y n l d) (D10.aM z k h f)) (D10.aM z k h f)) pj (fun hk=>U17.P_no ha hsg hk)
   have hK:=U17.small (p:=U17.Q y n l d ((U17.sg (D10.aM y n l d) (D10.aM z k h f))*(J:Int)) (U17.sg (D10.aM y n l d) (D10.aM z k h f)) (D10.aM z k h f)) qk (fun hk=>U17.Q_no ha hsg hk)
   have ht:=U17.XP (show U17.fit y n l d ((U17.sg (D10.aM y n l d) (D10.aM z k h f))*(J:Int)) ((U17.sg (D10.aM y n l d) (D10.aM z k h f))*(K:Int)) (U17.sg (D10.aM y n l d) (D10.aM z k h f)) (D10.aM z k h f)=true from qk)
   obtain⟨ry,rn,rl,rd,r1,r2,r3,HA⟩:=zP y n l d ((U17.sg (D10.aM y n l d) (D10.aM z k h f))*(J:Int)) ((U17.sg (D10.aM y n l d) (D10.aM z k h f))*(K:Int)) hy ht
   obtain⟨_,d1,d2⟩:=D10.qg ry rn rl rd r1
   have HX:=Lib.hid (kT ry rn rl rd r3 r1 _ r2)
   rw [r2]at d1 d2
   exact Kw y n l d z k h f ry rn rl rd _ _ _ J K w hT hL HS hy hb hsg vO vO (Lib.hid (fun i hi=>U17.XO ha hsg hi pj)) (Lib.hid (U17.IB (p:=U17.P y n l d (U17.sg (D10.aM y n l d) (D10.aM z k h f)) (D10.aM z k h f)) (fun hjk hk=>U17.XO ha hsg hjk hk) pj1)) (Lib.hid (fun i hi=>U17.MP ha hsg q0 hi qk)) (Lib.hid (U17.IB (p:=U17.Q y n l d ((U17.sg (D10.aM y n l d) (D10.aM z k h f))*(J:Int)) (U17.sg (D10.aM y n l d) (D10.aM z k h f)) (D10.aM z k h f)) (fun hjk hk=>U17.MP ha hsg q0 hjk hk) qk1)) (Lib.hid HA) HX HY ⟨vO,vO⟩ ⟨vO,vO⟩
end
end Go.Proofs.YtljbnicolhhicaaGreatDoor
