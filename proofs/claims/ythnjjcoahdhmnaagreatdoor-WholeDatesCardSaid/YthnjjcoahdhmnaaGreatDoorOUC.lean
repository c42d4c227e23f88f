import Derived.Test.YthnjjcoahdhmnaaGreatDoorOUB
import Derived.RegionTactic
import Derived.IntWalk
set_option maxHeartbeats 8000000
set_option maxRecDepth 100000
set_option linter.unusedVariables false
namespace Go.Proofs.YthnjjcoahdhmnaaGreatDoor
section
open Go.ChangeShapes Go.WideShapes Go.ChangeAt Go.RowKit
def iZ(w:World)(r:Nat)(a b c q:Int):Prop:=w.cell? ⟨r,0,none⟩=some (.int .i64 a)/\w.cell? ⟨r,1,none⟩=some (.int .i64 b)/\w.cell? ⟨r,2,none⟩=some (.int .i64 c)/\w.cell? ⟨r,3,none⟩=some (.int .i64 q)/\(∀i,w.frozen? ⟨r,i,none⟩=false)/\r<w.heap.size
theorem bN{w w':World}{g:Nat}{a b c q:Int}(h:iZ w g a b c q)(hb:Below w.heap.size w w'):iZ w' g a b c q:=by
 obtain⟨h0,h1,h2,h3,hf,hs⟩:=h
 have c:=fun i=>hb.cell (p:=⟨g,i,none⟩) hs
 exact⟨(c 0).trans h0,(c 1).trans h1,(c 2).trans h2,(c 3).trans h3,fun i=>(hb.frozen (p:=⟨g,i,none⟩) hs).trans (hf i),Nat.lt_of_lt_of_le hs hb.size⟩
theorem fC{w w':World}{g g':Nat}{a b c q:Int}(h:iZ w g a b c q)(hb:But g' w w')(hg:g≠g'):iZ w' g a b c q:=by
 obtain⟨h0,h1,h2,h3,hf,hs⟩:=h
 have c:=fun i=>hb.cell (k:=g) (o:=i) hs hg
 exact⟨(c 0).trans h0,(c 1).trans h1,(c 2).trans h2,(c 3).trans h3,fun i=>(hb.frozen (k:=g) (o:=i) hs hg).trans (hf i),Nat.lt_of_lt_of_le hs hb.size⟩
theorem BL(y n:Int)(l:Bool)(d z k:Int)(h:Bool)(f:Int)(sv ev:Int)(w:World)(hT:Tab w 7 kevCells)(hL:Tab w 5 lenCells)(HS:Hid (∀w:World,Tab w 7 kevCells->Tab w 5 lenCells->Calls Tryo.prog 61 #[.agg #[.int .i64 (y),.int .i64 (n),.bool (l),.int .i64 (d)],.agg #[.int .i64 (z),.int .i64 (k),.bool (h),.int .i64 (f)],.int .i64 3] w fun e w'=>e= .returned (.agg #[.int .i64 y,.int .i64 n,.bool l,.int .i64 d,.int .i64 z,.int .i64 k,.bool h,.int .i64 f,.int .i64 (sv),.int .i64 (0),.int .i64 (0),.int .i64 (0),.int .i64 (0),.int .i64 (ev)])/\Below w.heap.size w w'))(hne:¬ ev=0):
  Calls Tryo.prog 19 #[.agg #[.int .i64 (y),.int .i64 (n),.bool (l),.int .i64 (d)],.agg #[.int .i64 (z),.int .i64 (k),.bool (h),.int .i64 (f)],.int .i64 3] w fun e w'=>e= .returned (.tuple #[.agg #[.int .i64 (0),.int .i64 (0),.int .i64 (0),.int .i64 (0)],.int .i64 (ev)])/\Below w.heap.size w w':=by
 have hne2:(ev !=0)=true:=by simpa using hne
 have hw1:=hT.lt
 have hw2:=hL.lt
 go_enter Tryo.func19,Tryz.ntmps19
 go_wp2_with fail
 refine aL (fun W=>iZ W (w.heap.size+1+1) 0 0 0 0/\Below w.heap.size w W) ⟨⟨by simp [go_sem],by simp [go_sem],by simp [go_sem],by simp [go_sem],fun i=>by simp [go_sem],by simp⟩,bel⟩ ?_
 rintro W0 ⟨hR0,hB0⟩
 refine(HS.out _ (Tab.below hT hB0) (Tab.below hL hB0)).mono ?_
 rintro e w1 ⟨rfl,hb1⟩
 have hR1:=bN hR0 hb1
 have hB1:=bt hB0 hb1
 go_wp2_with fail
 refine aL (fun W=>aK W w1.heap.size y n l d z k h f (sv) 0 0 0 0 (ev)/\iZ W (w.heap.size+1+1) 0 0 0 0/\Below w.heap.size w W) ⟨?_,bN hR1 bel,bt hB1 bel⟩ ?_
 ·first|exact aP w1 y n l d z k h f (sv) 0 0 0 0 (ev) 92|exact bJ (bX (dA (dL (fu (fQ (fP (fM (fH (fI (fT (fO (fU (fG (aP w1 0 0 false 0 0 0 false 0 0 0 0 0 0 0 92) _) _) _) _) _) _) _) _) _) _) _) _) _) _
 rintro W2 ⟨hP2,hR2,hB2⟩
 have hg:w.heap.size+1+1<w1.heap.size:=hR1.2.2.2.2.2
 have hT2:=Tab.below hT hB2
 have hL2:=Tab.below hL hB2
 clear hR0 hB0 hR1 hB1 hb1
 refine(FN y n l d z k h f sv 0 0 0 0 ev hne w1.heap.size _ hP2).mono ?_
 rintro e W3 ⟨rfl,hP3,hU3⟩
 have hR3:=fC hR2 hU3 (by omega)
 have hB3:=hU3.below hB2 (by omega)
 have hT3:=But.tab hT2 hU3 (by omega)
 have hL3:=But.tab hL2 hU3 (by omega)
 go_wp2_with fail
 refine(qL y n l d z k h f sv 0 0 0 0 ev hne w1.heap.size _ hP3).mono ?_
 rintro e W4 ⟨rfl,hP4,hU4⟩
 have hR4:=fC hR3 hU4 (by omega)
 have hB4:=hU4.below hB3 (by omega)
 have hT4:=But.tab hT3 hU4 (by omega)
 have hL4:=But.tab hL3 hU4 (by omega)
 go_wp2_with fail
 refine(jI y n l d z k h f sv 0 0 0 0 ev hne w1.heap.size _ hP4).mono ?_
 rintro e W5 ⟨rfl,hP5,hU5⟩
 have hR5:=fC hR4 hU5 (by omega)
 have hB5:=hU5.below hB4 (by omega)
 have hT5:=But.tab hT4 hU5 (by omega)
 have hL5:=But.tab hL4 hU5 (by omega)
 have hq:=hP5
 obtain⟨x0,x1,x2,x3,x4,x5,x6,x7,x8,x9,x10,x11,x12,x13,xf,xs⟩:=hq
 have hq:=hR5
 obtain⟨r0,r1,r2,r3,rf,rs⟩:=hq
 go_wp2_with fail
 go_region
 all_goals go_wp2_with fail
 all_goals refine bodyPost_ret (v:= .tuple #[.agg #[.int .i64 (0),.int .i64 (0),.int .i64 (0),.int .i64 (0)],.int .i64 (ev)]) (by simp [results,Tryz.results19,go_sem, *]) rfl ⟨rfl, ?_⟩
 all_goals repeat(first|(with_reducible assumption)|(with_reducible refine aD ?_)|(with_reducible refine bs ?_ (show w.heap.size<=w.heap.size+1+1 by omega) _))
theorem Ck(y n:Int)(l:Bool)(d z k:Int)(h:Bool)(f:Int)(sv ev:Int)(w:World)(hT:Tab w 7 kevCells)(hL:Tab w 5 lenCells)(HS:Hid (∀w:World,Tab w 7 kevCells->Tab w 5 lenCells->Calls Tryo.prog 61 #[.agg #[.int .i64 (y),.int .i64 (n),.bool (l),.int .i64 (d)],.agg #[.int .i64 (z),.int .i64 (k),.bool (h),.int .i64 (f)],.int .i64 2] w fun e w'=>e= .returned (.agg #[.int .i64 y,.int .i64 n,.bool l,.int .i64 d,.int .i64 z,.int .i64 k,.bool h,.int .i64 f,.int .i64 (sv),.int .i64 (0),.int .i64 (0),.int .i64 (0),.int .i64 (0),.int .i64 (ev)])/\Below w.heap.size w w'))(hne:¬ ev=0):
  Calls Tryo.prog 19 #[.agg #[.int .i64 (y),.int .i64 (n),.bool (l),.int .i64 (d)],.agg #[.int .i64 (z),.int .i64 (k),.bool (h),.int .i64 (f)],.int .i64 2] w fun e w'=>e= .returned (.tuple #[.agg #[.int .i64 (0),.int .i64 (0),.int .i64 (0),.int .i64 (0)],.int .i64 (ev)])/\Below w.heap.size w w':=by
 have hne2:(ev !=0)=true:=by simpa using hne
 have hw1:=hT.lt
 have hw2:=hL.lt
 go_enter Tryo.func19,Tryz.ntmps19
 go_wp2_with fail
 refine aL (fun W=>iZ W (w.heap.size+1+1) 0 0 0 0/\Below w.heap.size w W) ⟨⟨by simp [go_sem],by simp [go_sem],by simp [go_sem],by simp [go_sem],fun i=>by simp [go_sem],by simp⟩,bel⟩ ?_
 rintro W0 ⟨hR0,hB0⟩
 refine(HS.out _ (Tab.below hT hB0) (Tab.below hL hB0)).mono ?_
 rintro e w1 ⟨rfl,hb1⟩
 have hR1:=bN hR0 hb1
 have hB1:=bt hB0 hb1
 go_wp2_with fail
 refine aL (fun W=>aK W w1.heap.size y n l d z k h f (sv) 0 0 0 0 (ev)/\iZ W (w.heap.size+1+1) 0 0 0 0/\Below w.heap.size w W) ⟨?_,bN hR1 bel,bt hB1 bel⟩ ?_
 ·first|exact aP w1 y n l d z k h f (sv) 0 0 0 0 (ev) 92|exact bJ (bX (dA (dL (fu (fQ (fP (fM (fH (fI (fT (fO (fU (fG (aP w1 0 0 false 0 0 0 false 0 0 0 0 0 0 0 92) _) _) _) _) _) _) _) _) _) _) _) _) _) _
 rintro W2 ⟨hP2,hR2,hB2⟩
 have hg:w.heap.size+1+1<w1.heap.size:=hR1.2.2.2.2.2
 have hT2:=Tab.below hT hB2
 have hL2:=Tab.below hL hB2
 clear hR0 hB0 hR1 hB1 hb1
 refine(qL y n l d z k h f sv 0 0 0 0 ev hne w1.heap.size _ hP2).mono ?_
 rintro e W3 ⟨rfl,hP3,hU3⟩
 have hR3:=fC hR2 hU3 (by omega)
 have hB3:=hU3.below hB2 (by omega)
 have hT3:=But.tab hT2 hU3 (by omega)
 have hL3:=But.tab hL2 hU3 (by omega)
 go_wp2_with fail
 refine(jI y n l d z k h f sv 0 0 0 0 ev hne w1.heap.size _ hP3).mono ?_
 rintro e W4 ⟨rfl,hP4,hU4⟩
 have hR4:=fC hR3 hU4 (by omega)
 have hB4:=hU4.below hB3 (by omega)
 have hT4:=But.tab hT3 hU4 (by omega)
 have hL4:=But.tab hL3 hU4 (by omega)
 have hq:=hP4
 obtain⟨x0,x1,x2,x3,x4,x5,x6,x7,x8,x9,x10,x11,x12,x13,xf,xs⟩:=hq
 have hq:=hR4
 obtain⟨r0,r1,r2,r3,rf,rs⟩:=hq
 go_wp2_with fail
 go_region
 all_goals go_wp2_with fail
 all_goals refine bodyPost_ret (v:= .tuple #[.agg #[.int .i64 (0),.int .i64 (0),.int .i64 (0),.int .i64 (0)],.int .i64 (ev)]) (by simp [results,Tryz.results19,go_sem, *]) rfl ⟨rfl, ?_⟩
 all_goals repeat(first|(with_reducible assumption)|(with_reducible refine aD ?_)|(with_reducible refine bs ?_ (show w.heap.size<=w.heap.size+1+1 by omega) _))
theorem BS(y n:Int)(l:Bool)(d z k:Int)(h:Bool)(f:Int)(sv ev:Int)(w:World)(hT:Tab w 7 kevCells)(hL:Tab w 5 lenCells)(HS:Hid (∀w:World,Tab w 7 kevCells->Tab w 5 lenCells->Calls Tryo.prog 61 #[.agg #[.int .i64 (y),.int .i64 (n),.bool (l),.int .i64 (d)],.agg #[.int .i64 (z),.int .i64 (k),.bool (h),.int .i64 (f)],.int .i64 1] w fun e w'=>e= .returned (.agg #[.int .i64 y,.int .i64 n,.bool l,.int .i64 d,.int .i64 z,.int .i64 k,.bool h,.int .i64 f,.int .i64 (sv),.int .i64 (0),.int .i64 (0),.int .i64 (0),.int .i64 (0),.int .i64 (ev)])/\Below w.heap.size w w'))(hne:¬ ev=0):
  Calls Tryo.prog 19 #[.agg #[.int .i64 (y),.int .i64 (n),.bool (l),.int .i64 (d)],.agg #[.int .i64 (z),.int .i64 (k),.bool (h),.int .i64 (f)],.int .i64 1] w fun e w'=>e= .returned (.tuple #[.agg #[.int .i64 (0),.int .i64 (0),.int .i64 (0),.int .i64 (0)],.int .i64 (ev)])/\Below w.heap.size w w':=by
 have hne2:(ev !=0)=true:=by simpa using hne
 have hw1:=hT.lt
 have hw2:=hL.lt
 go_enter Tryo.func19,Tryz.ntmps19
 go_wp2_with fail
 refine aL (fun W=>iZ W (w.heap.size+1+1) 0 0 0 0/\Below w.heap.size w W) ⟨⟨by simp [go_sem],by simp [go_sem],by simp [go_sem],by simp [go_sem],fun i=>by simp [go_sem],by simp⟩,bel⟩ ?_
 rintro W0 ⟨hR0,hB0⟩
 refine(HS.out _ (Tab.below hT hB0) (Tab.below hL hB0)).mono ?_
 rintro e w1 ⟨rfl,hb1⟩
 have hR1:=bN hR0 hb1
 have hB1:=bt hB0 hb1
 go_wp2_with fail
 refine aL (fun W=>aK W w1.heap.size y n l d z k h f (sv) 0 0 0 0 (ev)/\iZ W (w.heap.size+1+1) 0 0 0 0/\Below w.heap.size w W) ⟨?_,bN hR1 bel,bt hB1 bel⟩ ?_
 ·first|exact aP w1 y n l d z k h f (sv) 0 0 0 0 (ev) 92|exact bJ (bX (dA (dL (fu (fQ (fP (fM (fH (fI (fT (fO (fU (fG (aP w1 0 0 false 0 0 0 false 0 0 0 0 0 0 0 92) _) _) _) _) _) _) _) _) _) _) _) _) _) _
 rintro W2 ⟨hP2,hR2,hB2⟩
 have hg:w.heap.size+1+1<w1.heap.size:=hR1.2.2.2.2.2
 have hT2:=Tab.below hT hB2
 have hL2:=Tab.below hL hB2
 clear hR0 hB0 hR1 hB1 hb1
 refine(jI y n l d z k h f sv 0 0 0 0 ev hne w1.heap.size _ hP2).mono ?_
 rintro e W3 ⟨rfl,hP3,hU3⟩
 have hR3:=fC hR2 hU3 (by omega)
 have hB3:=hU3.below hB2 (by omega)
 have hT3:=But.tab hT2 hU3 (by omega)
 have hL3:=But.tab hL2 hU3 (by omega)
 go_wp2_with fail
 refine(Gj y n l d z k h f sv 0 0 0 0 ev hne w1.heap.size _ hP3).mono ?_
 rintro e W4 ⟨rfl,hP4,hU4⟩
 have hR4:=fC hR3 hU4 (by omega)
 have hB4:=hU4.below hB3 (by omega)
 have hT4:=But.tab hT3 hU4 (by omega)
 have hL4:=But.tab hL3 hU4 (by omega)
 have hq:=hP4
 obtain⟨x0,x1,x2,x3,x4,x5,x6,x7,x8,x9,x10,x11,x12,x13,xf,xs⟩:=hq
 have hq:=hR4
 obtain⟨r0,r1,r2,r3,rf,rs⟩:=hq
 go_wp2_with fail
 go_region
 all_goals go_wp2_with fail
 all_goals refine bodyPost_ret (v:= .tuple #[.agg #[.int .i64 (0),.int .i64 (0),.int .i64 (0),.int .i64 (0)],.int .i64 (ev)]) (by simp [results,Tryz.results19,go_sem, *]) rfl ⟨rfl, ?_⟩
 all_goals repeat(first|(with_reducible assumption)|(with_reducible refine aD ?_)|(with_reducible refine bs ?_ (show w.heap.size<=w.heap.size+1+1 by omega) _))
theorem BG(y n:Int)(l:Bool)(d z k:Int)(h:Bool)(f:Int)(sv ev:Int)(w:World)(hT:Tab w 7 kevCells)(hL:Tab w 5 lenCells)(HS:Hid (∀w:World,Tab w 7 kevCells->Tab w 5 lenCells->Calls Tryo.prog 61 #[.agg #[.int .i64 (y),.int .i64 (n),.bool (l),.int .i64 (d)],.agg #[.int .i64 (z),.int .i64 (k),.bool (h),.int .i64 (f)],.int .i64 0] w fun e w'=>e= .returned (.agg #[.int .i64 y,.int .i64 n,.bool l,.int .i64 d,.int .i64 z,.int .i64 k,.bool h,.int .i64 f,.int .i64 (sv),.int .i64 (0),.int .i64 (0),.int .i64 (0),.int .i64 (0),.int .i64 (ev)])/\Below w.heap.size w w'))(hne:¬ ev=0):
  Calls Tryo.prog 19 #[.agg #[.int .i64 (y),.int .i64 (n),.bool (l),.int .i64 (d)],.agg #[.int .i64 (z),.int .i64 (k),.bool (h),.int .i64 (f)],.int .i64 0] w fun e w'=>e= .returned (.tuple #[.agg #[.int .i64 (0),.int .i64 (0),.int .i64 (0),.int .i64 (0)],.int .i64 (ev)])/\Below w.heap.size w w':=by
 have hne2:(ev !=0)=true:=by simpa using hne
 have hw1:=hT.lt
 have hw2:=hL.lt
 go_enter Tryo.func19,Tryz.ntmps19
 go_wp2_with fail
 refine aL (fun W=>iZ W (w.heap.size+1+1) 0 0 0 0/\Below w.heap.size w W) ⟨⟨by simp [go_sem],by simp [go_sem],by simp [go_sem],by simp [go_sem],fun i=>by simp [go_sem],by simp⟩,bel⟩ ?_
 rintro W0 ⟨hR0,hB0⟩
 refine(HS.out _ (Tab.below hT hB0) (Tab.below hL hB0)).mono ?_
 rintro e w1 ⟨rfl,hb1⟩
 have hR1:=bN hR0 hb1
 have hB1:=bt hB0 hb1
 go_wp2_with fail
 refine aL (fun W=>aK W w1.heap.size y n l d z k h f (sv) 0 0 0 0 (ev)/\iZ W (w.heap.size+1+1) 0 0 0 0/\Below w.heap.size w W) ⟨?_,bN hR1 bel,bt hB1 bel⟩ ?_
 ·first|exact aP w1 y n l d z k h f (sv) 0 0 0 0 (ev) 92|exact bJ (bX (dA (dL (fu (fQ (fP (fM (fH (fI (fT (fO (fU (fG (aP w1 0 0 false 0 0 0 false 0 0 0 0 0 0 0 92) _) _) _) _) _) _) _) _) _) _) _) _) _) _
 rintro W2 ⟨hP2,hR2,hB2⟩
 have hg:w.heap.size+1+1<w1.heap.size:=hR1.2.2.2.2.2
 have hT2:=Tab.below hT hB2
 have hL2:=Tab.below hL hB2
 clear hR0 hB0 hR1 hB1 hb1
 refine(jI y n l d z k h f sv 0 0 0 0 ev hne w1.heap.size _ hP2).mono ?_
 rintro e W3 ⟨rfl,hP3,hU3⟩
 have hR3:=fC hR2 hU3 (by omega)
 have hB3:=hU3.below hB2 (by omega)
 have hT3:=But.tab hT2 hU3 (by omega)
 have hL3:=But.tab hL2 hU3 (by omega)
 have hq:=hP3
 obtain⟨x0,x1,x2,x3,x4,x5,x6,x7,x8,x9,x10,x11,x12,x13,xf,xs⟩:=hq
 have hq:=hR3
 obtain⟨r0,r1,r2,r3,rf,rs⟩:=hq
 go_wp2_with fail
 go_region
 all_goals go_wp2_with fail
 all_goals refine bodyPost_ret (v:= .tuple #[.agg #[.int .i64 (0),.int .i64 (0),.int .i64 (0),.int .i64 (0)],.int .i64 (ev)]) (by simp [results,Tryz.results19,go_sem, *]) rfl ⟨rfl, ?_⟩
 all_goals repeat(first|(with_reducible assumption)|(with_reducible refine aD ?_)|(with_reducible refine bs ?_ (show w.heap.size<=w.heap.size+1+1 by omega) _))
theorem BD(y n:Int)(l:Bool)(d z k:Int)(h:Bool)(f:Int)(sv ev:Int)(unit:Int)(w:World)(hT:Tab w 7 kevCells)(hL:Tab w 5 lenCells)(HS:Hid (∀w:World,Tab w 7 kevCells->Tab w 5 lenCells->Calls Tryo.prog 61 #[.agg #[.int .i64 (y),.int .i64 (n),.bool (l),.int .i64 (d)],.agg #[.int .i64 (z),.int .i64 (k),.bool (h),.int .i64 (f)],.int .i64 unit] w fun e w'=>e= .returned (.agg #[.int .i64 y,.int .i64 n,.bool l,.int .i64 d,.int .i64 z,.int .i64 k,.bool h,.int .i64 f,.int .i64 (sv),.int .i64 (0),.int .i64 (0),.int .i64 (0),.int .i64 (0),.int .i64 (ev)])/\Below w.heap.size w w'))(hne:¬ ev=0)(u3:(unit==3)=false)(u2:(unit==2)=false)(u1:(unit==1)=false):
  Calls Tryo.prog 19 #[.agg #[.int .i64 (y),.int .i64 (n),.bool (l),.int .i64 (d)],.agg #[.int .i64 (z),.int .i64 (k),.bool (h),.int .i64 (f)],.int .i64 unit] w fun e w'=>e= .returned (.tuple #[.agg #[.int .i64 (0),.int .i64 (0),.int .i64 (0),.int .i64 (0)],.int .i64 (ev)])/\Below w.heap.size w w':=by
 have hne2:(ev !=0)=true:=by simpa using hne
 have hw1:=hT.lt
 have hw2:=hL.lt
 go_enter Tryo.func19,Tryz.ntmps19
 go_wp2_with fail
 refine aL (fun W=>iZ W (w.heap.size+1+1) 0 0 0 0/\Below w.heap.size w W) ⟨⟨by simp [go_sem],by simp [go_sem],by simp [go_sem],by simp [go_sem],fun i=>by simp [go_sem],by simp⟩,bel⟩ ?_
 rintro W0 ⟨hR0,hB0⟩
 refine(HS.out _ (Tab.below hT hB0) (Tab.below hL hB0)).mono ?_
 rintro e w1 ⟨rfl,hb1⟩
 have hR1:=bN hR0 hb1
 have hB1:=bt hB0 hb1
 go_wp2_with fail
 refine aL (fun W=>aK W w1.heap.size y n l d z k h f (sv) 0 0 0 0 (ev)/\iZ W (w.heap.size+1+1) 0 0 0 0/\Below w.heap.size w W) ⟨?_,bN hR1 bel,bt hB1 bel⟩ ?_
 ·first|exact aP w1 y n l d z k h f (sv) 0 0 0 0 (ev) 92|exact bJ (bX (dA (dL (fu (fQ (fP (fM (fH (fI (fT (fO (fU (fG (aP w1 0 0 false 0 0 0 false 0 0 0 0 0 0 0 92) _) _) _) _) _) _) _) _) _) _) _) _) _) _
 rintro W2 ⟨hP2,hR2,hB2⟩
 have hg:w.heap.size+1+1<w1.heap.size:=hR1.2.2.2.2.2
 have hT2:=Tab.below hT hB2
 have hL2:=Tab.below hL hB2
 clear hR0 hB0 hR1 hB1 hb1
 refine(jI y n l d z k h f sv 0 0 0 0 ev hne w1.heap.size _ hP2).mono ?_
 rintro e W3 ⟨rfl,hP3,hU3⟩
 have hR3:=fC hR2 hU3 (by omega)
 have hB3:=hU3.below hB2 (by omega)
 have hT3:=But.tab hT2 hU3 (by omega)
 have hL3:=But.tab hL2 hU3 (by omega)
 have hq:=hP3
 obtain⟨x0,x1,x2,x3,x4,x5,x6,x7,x8,x9,x10,x11,x12,x13,xf,xs⟩:=hq
 have hq:=hR3
 obtain⟨r0,r1,r2,r3,rf,rs⟩:=hq
 go_wp2_with fail
 go_region
 all_goals go_wp2_with fail
 all_goals refine bodyPost_ret (v:= .tuple #[.agg #[.int .i64 (0),.int .i64 (0),.int .i64 (0),.int .i64 (0)],.int .i64 (ev)]) (by simp [results,Tryz.results19,go_sem, *]) rfl ⟨rfl, ?_⟩
 all_goals repeat(first|(with_reducible assumption)|(with_reducible refine aD ?_)|(with_reducible refine bs ?_ (show w.heap.size<=w.heap.size+1+1 by omega) _))
theorem F9(y n:Int)(l:Bool)(d z k:Int)(h:Bool)(f:Int)(ry rn:Int)(rl:Bool)(rd D1 D2 s:Int)(w:World)(hT:Tab w 7 kevCells)(hL:Tab w 5 lenCells)(HS:Hid (∀w:World,Tab w 7 kevCells->Tab w 5 lenCells->Calls Tryo.prog 61 #[.agg #[.int .i64 (y),.int .i64 (n),.bool (l),.int .i64 (d)],.agg #[.int .i64 (z),.int .i64 (k),.bool (h),.int .i64 (f)],.int .i64 0] w fun e w'=>e= .returned (.agg #[.int .i64 y,.int .i64 n,.bool l,.int .i64 d,.int .i64 z,.int .i64 k,.bool h,.int .i64 f,.int .i64 (s),.int .i64 (0),.int .i64 (0),.int .i64 (0),.int .i64 (0),.int .i64 (0)])/\Below w.heap.size w w'))(HA:Hid (∀w:World,Tab w 7 kevCells->Tab w 5 lenCells->Calls Tryo.prog 18 #[.agg #[.int .i64 (y),.int .i64 (n),.bool (l),.int .i64 (d)],.agg #[.int .i64 (0),.int .i64 (0),.int .i64 (0),.int .i64 (0)],.int .i64 0] w fun e w'=>e= .returned (.tuple #[.agg #[.int .i64 (ry),.int .i64 (rn),.bool (rl),.int .i64 (rd)],.int .i64 (0)])/\Below w.heap.size w w'))(HX:Hid (∀w:World,Tab w 7 kevCells->Tab w 5 lenCells->Calls Tryo.prog 15 #[.agg #[.int .i64 (ry),.int .i64 (rn),.bool (rl),.int .i64 (rd)]] w fun e w'=>e= .returned (.tuple #[.int .i64 (D1),.int .i64 0])/\Below w.heap.size w w'))(HY:Hid (∀w:World,Tab w 7 kevCells->Tab w 5 lenCells->Calls Tryo.prog 15 #[.agg #[.int .i64 (z),.int .i64 (k),.bool (h),.int .i64 (f)]] w fun e w'=>e= .returned (.tuple #[.int .i64 (D2),.int .i64 0])/\Below w.heap.size w w'))(h1: -3000000<=D1/\D1<=3000000)(h2: -3000000<=D2/\D2<=3000000):
  Calls Tryo.prog 19 #[.agg #[.int .i64 (y),.int .i64 (n),.bool (l),.int .i64 (d)],.agg #[.int .i64 (z),.int .i64 (k),.bool (h),.int .i64 (f)],.int .i64 0] w fun e w'=>e= .returned (.tuple #[.agg #[.int .i64 (0),.int .i64 (0),.int .i64 (0),.int .i64 (D2-D1)],.int .i64 (0)])/\Below w.heap.size w w':=by
 obtain⟨h11,h12⟩:=h1
 obtain⟨h21,h22⟩:=h2
 have hw1:=hT.lt
 have hw2:=hL.lt
 go_enter Tryo.func19,Tryz.ntmps19
 go_wp2_with fail
 refine aL (fun W=>iZ W (w.heap.size+1+1) 0 0 0 0/\Below w.heap.size w W) ⟨⟨by simp [go_sem],by simp [go_sem],by simp [go_sem],by simp [go_sem],fun i=>by simp [go_sem],by simp⟩,bel⟩ ?_
 rintro W0 ⟨hR0,hB0⟩
 refine(HS.out _ (Tab.below hT hB0) (Tab.below hL hB0)).mono ?_
 rintro e w1 ⟨rfl,hb1⟩
 have hR1:=bN hR0 hb1
 have hB1:=bt hB0 hb1
 go_wp2_with fail
 refine aL (fun W=>aK W w1.heap.size y n l d z k h f (s) 0 0 0 0 (0)/\iZ W (w.heap.size+1+1) 0 0 0 0/\Below w.heap.size w W) ⟨?_,bN hR1 bel,bt hB1 bel⟩ ?_
 ·first|exact aP w1 y n l d z k h f (s) 0 0 0 0 (0) 92|exact bJ (bX (dA (dL (fu (fQ (fP (fM (fH (fI (fT (fO (fU (fG (aP w1 0 0 false 0 0 0 false 0 0 0 0 0 0 0 92) _) _) _) _) _) _) _) _) _) _) _) _) _) _
 rintro W2 ⟨hP2,hR2,hB2⟩
 have hg:w.heap.size+1+1<w1.heap.size:=hR1.2.2.2.2.2
 have hT2:=Tab.below hT hB2
 have hL2:=Tab.below hL hB2
 clear hR0 hB0 hR1 hB1 hb1
 refine(mW y n l d z k h f s 0 0 0 0 0 ry rn rl rd D1 D2 w1.heap.size _ hT2 hL2 HA HX HY ⟨by omega,by omega⟩ ⟨by omega,by omega⟩ hP2).mono ?_
 rintro e W3 ⟨rfl,hP3,hU3⟩
 have hR3:=fC hR2 hU3 (by omega)
 have hB3:=hU3.below hB2 (by omega)
 have hT3:=But.tab hT2 hU3 (by omega)
 have hL3:=But.tab hL2 hU3 (by omega)
 have hq:=hP3
 obtain⟨x0,x1,x2,x3,x4,x5,x6,x7,x8,x9,x10,x11,x12,x13,xf,xs⟩:=hq
 have hq:=hR3
 obtain⟨r0,r1,r2,r3,rf,rs⟩:=hq
 go_wp2_with fail
 refine bodyPost_ret (v:= .tuple #[.agg #[.int .i64 (0),.int .i64 (0),.int .i64 (0),.int .i64 (D2-D1)],.int .i64 (0)]) (by simp [results,Tryz.results19,go_sem, *]) rfl ⟨rfl, ?_⟩
 iterate 4 refine Below.setCell ?_ (show w.heap.size<=w.heap.size+1+1 by omega) _
 exact hB3
theorem GI(y n:Int)(l:Bool)(d z k:Int)(h:Bool)(f:Int)(ry rn:Int)(rl:Bool)(rd D1 D2 s:Int)(w:World)(hT:Tab w 7 kevCells)(hL:Tab w 5 lenCells)(HS:Hid (∀w:World,Tab w 7 kevCells->Tab w 5 lenCells->Calls Tryo.prog 61 #[.agg #[.int .i64 (y),.int .i64 (n),.bool (l),.int .i64 (d)],.agg #[.int .i64 (z),.int .i64 (k),.bool (h),.int .i64 (f)],.int .i64 1] w fun e w'=>e= .returned (.agg #[.int .i64 y,.int .i64 n,.bool l,.int .i64 d,.int .i64 z,.int .i64 k,.bool h,.int .i64 f,.int .i64 (s),.int .i64 (0),.int .i64 (0),.int .i64 (0),.int .i64 (0),.int .i64 (0)])/\Below w.heap.size w w'))(HA:Hid (∀w:World,Tab w 7 kevCells->Tab w 5 lenCells->Calls Tryo.prog 18 #[.agg #[.int .i64 (y),.int .i64 (n),.bool (l),.int .i64 (d)],.agg #[.int .i64 (0),.int .i64 (0),.int .i64 (0),.int .i64 (0)],.int .i64 0] w fun e w'=>e= .returned (.tuple #[.agg #[.int .i64 (ry),.int .i64 (rn),.bool (rl),.int .i64 (rd)],.int .i64 (0)])/\Below w.heap.size w w'))(HX:Hid (∀w:World,Tab w 7 kevCells->Tab w 5 lenCells->Calls Tryo.prog 15 #[.agg #[.int .i64 (ry),.int .i64 (rn),.bool (rl),.int .i64 (rd)]] w fun e w'=>e= .returned (.tuple #[.int .i64 (D1),.int .i64 0])/\Below w.heap.size w w'))(HY:Hid (∀w:World,Tab w 7 kevCells->Tab w 5 lenCells->Calls Tryo.prog 15 #[.agg #[.int .i64 (z),.int .i64 (k),.bool (h),.int .i64 (f)]] w fun e w'=>e= .returned (.tuple #[.int .i64 (D2),.int .i64 0])/\Below w.heap.size w w'))(h1: -3000000<=D1/\D1<=3000000)(h2: -3000000<=D2/\D2<=3000000):
  Calls Tryo.prog 19 #[.agg #[.int .i64 (y),.int .i64 (n),.bool (l),.int .i64 (d)],.agg #[.int .i64 (z),.int .i64 (k),.bool (h),.int .i64 (f)],.int .i64 1] w fun e w'=>e= .returned (.tuple #[.agg #[.int .i64 (0),.int .i64 (0),.int .i64 ((D2-D1).tdiv 7),.int .i64 ((D2-D1).tmod 7)],.int .i64 (0)])/\Below w.heap.size w w':=by
 obtain⟨h11,h12⟩:=h1
 obtain⟨h21,h22⟩:=h2
 have hw1:=hT.lt
 have hw2:=hL.lt
 go_enter Tryo.func19,Tryz.ntmps19
 go_wp2_with fail
 refine aL (fun W=>iZ W (w.heap.size+1+1) 0 0 0 0/\Below w.heap.size w W) ⟨⟨by simp [go_sem],by simp [go_sem],by simp [go_sem],by simp [go_sem],fun i=>by simp [go_sem],by simp⟩,bel⟩ ?_
 rintro W0 ⟨hR0,hB0⟩
 refine(HS.out _ (Tab.below hT hB0) (Tab.below hL hB0)).mono ?_
 rintro e w1 ⟨rfl,hb1⟩
 have hR1:=bN hR0 hb1
 have hB1:=bt hB0 hb1
 go_wp2_with fail
 refine aL (fun W=>aK W w1.heap.size y n l d z k h f (s) 0 0 0 0 (0)/\iZ W (w.heap.size+1+1) 0 0 0 0/\Below w.heap.size w W) ⟨?_,bN hR1 bel,bt hB1 bel⟩ ?_
 ·first|exact aP w1 y n l d z k h f (s) 0 0 0 0 (0) 92|exact bJ (bX (dA (dL (fu (fQ (fP (fM (fH (fI (fT (fO (fU (fG (aP w1 0 0 false 0 0 0 false 0 0 0 0 0 0 0 92) _) _) _) _) _) _) _) _) _) _) _) _) _) _
 rintro W2 ⟨hP2,hR2,hB2⟩
 have hg:w.heap.size+1+1<w1.heap.size:=hR1.2.2.2.2.2
 have hT2:=Tab.below hT hB2
 have hL2:=Tab.below hL hB2
 clear hR0 hB0 hR1 hB1 hb1
 refine(mW y n l d z k h f s 0 0 0 0 0 ry rn rl rd D1 D2 w1.heap.size _ hT2 hL2 HA HX HY ⟨by omega,by omega⟩ ⟨by omega,by omega⟩ hP2).mono ?_
 rintro e W3 ⟨rfl,hP3,hU3⟩
 have hR3:=fC hR2 hU3 (by omega)
 have hB3:=hU3.below hB2 (by omega)
 have hT3:=But.tab hT2 hU3 (by omega)
 have hL3:=But.tab hL2 hU3 (by omega)
 go_wp2_with fail
 refine(Ru y n l d z k h f s 0 0 0 (D2-D1) 0 w1.heap.size _ (by omega) (by omega) hP3).mono ?_
 rintro e W4 ⟨rfl,hP4,hU4⟩
 have hR4:=fC hR3 hU4 (by omega)
 have hB4:=hU4.below hB3 (by omega)
 have hT4:=But.tab hT3 hU4 (by omega)
 have hL4:=But.tab hL3 hU4 (by omega)
 have hq:=hP4
 obtain⟨x0,x1,x2,x3,x4,x5,x6,x7,x8,x9,x10,x11,x12,x13,xf,xs⟩:=hq
 have hq:=hR4
 obtain⟨r0,r1,r2,r3,rf,rs⟩:=hq
 go_wp2_with fail
 refine bodyPost_ret (v:= .tuple #[.agg #[.int .i64 (0),.int .i64 (0),.int .i64 ((D2-D1).tdiv 7),.int .i64 ((D2-D1).tmod 7)],.int .i64 (0)]) (by simp [results,Tryz.results19,go_sem, *]) rfl ⟨rfl, ?_⟩
 iterate 4 refine Below.setCell ?_ (show w.heap.size<=w.heap.size+1+1 by omega) _
 exact hB4
theorem F6(y n:Int)(l:Bool)(d z k:Int)(h:Bool)(f:Int)(ry rn:Int)(rl:Bool)(rd D1 D2 s:Int)(K:Nat)(w:World)(hT:Tab w 7 kevCells)(hL:Tab w 5 lenCells)(HS:Hid (∀w:World,Tab w 7 kevCells->Tab w 5 lenCells->Calls Tryo.prog 61 #[.agg #[.int .i64 (y),.int .i64 (n),.bool (l),.int .i64 (d)],.agg #[.int .i64 (z),.int .i64 (k),.bool (h),.int .i64 (f)],.int .i64 2] w fun e w'=>e= .returned (.agg #[.int .i64 y,.int .i64 n,.bool l,.int .i64 d,.int .i64 z,.int .i64 k,.bool h,.int .i64 f,.int .i64 (s),.int .i64 (0),.int .i64 (0),.int .i64 (0),.int .i64 (0),.int .i64 (0)])/\Below w.heap.size w w'))(hy:I64 y)(ht:D10.aB z k h f=0)(hs:s=1∨s= -1)(hk:K<=200000)(md:Hid (∀i:Nat,i<=K->U17.fit y n l d 0 (s*(i:Int)) s (D10.aF z k h f)=true))(mu:Hid (∀i:Nat,K<i->U17.fit y n l d 0 (s*(i:Int)) s (D10.aF z k h f)=false))(HA:Hid (∀w:World,Tab w 7 kevCells->Tab w 5 lenCells->Calls Tryo.prog 18 #[.agg #[.int .i64 (y),.int .i64 (n),.bool (l),.int .i64 (d)],.agg #[.int .i64 (0),.int .i64 (s*(K:Int)),.int .i64 (0),.int .i64 (0)],.int .i64 0] w fun e w'=>e= .returned (.tuple #[.agg #[.int .i64 (ry),.int .i64 (rn),.bool (rl),.int .i64 (rd)],.int .i64 (0)])/\Below w.heap.size w w'))(HX:Hid (∀w:World,Tab w 7 kevCells->Tab w 5 lenCells->Calls Tryo.prog 15 #[.agg #[.int .i64 (ry),.int .i64 (rn),.bool (rl),.int .i64 (rd)]] w fun e w'=>e= .returned (.tuple #[.int .i64 (D1),.int .i64 0])/\Below w.heap.size w w'))(HY:Hid (∀w:World,Tab w 7 kevCells->Tab w 5 lenCells->Calls Tryo.prog 15 #[.agg #[.int .i64 (z),.int .i64 (k),.bool (h),.int .i64 (f)]] w fun e w'=>e= .returned (.tuple #[.int .i64 (D2),.int .i64 0])/\Below w.heap.size w w'))(h1: -3000000<=D1/\D1<=3000000)(h2: -3000000<=D2/\D2<=3000000):
  Calls Tryo.prog 19 #[.agg #[.int .i64 (y),.int .i64 (n),.bool (l),.int .i64 (d)],.agg #[.int .i64 (z),.int .i64 (k),.bool (h),.int .i64 (f)],.int .i64 2] w fun e w'=>e= .returned (.tuple #[.agg #[.int .i64 (0),.int .i64 (s*(K:Int)),.int .i64 (0),.int .i64 (D2-D1)],.int .i64 (0)])/\Below w.heap.size w w':=by
 obtain⟨h11,h12⟩:=h1
 obtain⟨h21,h22⟩:=h2
 have hw1:=hT.lt
 have hw2:=hL.lt
 go_enter Tryo.func19,Tryz.ntmps19
 go_wp2_with fail
 refine aL (fun W=>iZ W (w.heap.size+1+1) 0 0 0 0/\Below w.heap.size w W) ⟨⟨by simp [go_sem],by simp [go_sem],by simp [go_sem],by simp [go_sem],fun i=>by simp [go_sem],by simp⟩,bel⟩ ?_
 rintro W0 ⟨hR0,hB0⟩
 refine(HS.out _ (Tab.below hT hB0) (Tab.below hL hB0)).mono ?_
 rintro e w1 ⟨rfl,hb1⟩
 have hR1:=bN hR0 hb1
 have hB1:=bt hB0 hb1
 go_wp2_with fail
 refine aL (fun W=>aK W w1.heap.size y n l d z k h f (s) 0 0 0 0 (0)/\iZ W (w.heap.size+1+1) 0 0 0 0/\Below w.heap.size w W) ⟨?_,bN hR1 bel,bt hB1 bel⟩ ?_
 ·first|exact aP w1 y n l d z k h f (s) 0 0 0 0 (0) 92|exact bJ (bX (dA (dL (fu (fQ (fP (fM (fH (fI (fT (fO (fU (fG (aP w1 0 0 false 0 0 0 false 0 0 0 0 0 0 0 92) _) _) _) _) _) _) _) _) _) _) _) _) _) _
 rintro W2 ⟨hP2,hR2,hB2⟩
 have hg:w.heap.size+1+1<w1.heap.size:=hR1.2.2.2.2.2
 have hT2:=Tab.below hT hB2
 have hL2:=Tab.below hL hB2
 clear hR0 hB0 hR1 hB1 hb1
 refine(Dx y n l d z k h f s 0 0 0 0 0 K w1.heap.size _ hT2 hL2 hy ht hs hk md.out mu.out hP2).mono ?_
 rintro e W3 ⟨rfl,hP3,hU3⟩
 have hR3:=fC hR2 hU3 (by omega)
 have hB3:=hU3.below hB2 (by omega)
 have hT3:=But.tab hT2 hU3 (by omega)
 have hL3:=But.tab hL2 hU3 (by omega)
 go_wp2_with fail
 refine(mW y n l d z k h f s 0 (s*(K:Int)) 0 0 0 ry rn rl rd D1 D2 w1.heap.size _ hT3 hL3 HA HX HY ⟨by omega,by omega⟩ ⟨by omega,by omega⟩ hP3).mono ?_
 rintro e W4 ⟨rfl,hP4,hU4⟩
 have hR4:=fC hR3 hU4 (by omega)
 have hB4:=hU4.below hB3 (by omega)
 have hT4:=But.tab hT3 hU4 (by omega)
 have hL4:=But.tab hL3 hU4 (by omega)
 have hq:=hP4
 obtain⟨x0,x1,x2,x3,x4,x5,x6,x7,x8,x9,x10,x11,x12,x13,xf,xs⟩:=hq
 have hq:=hR4
 obtain⟨r0,r1,r2,r3,rf,rs⟩:=hq
 go_wp2_with fail
 refine bodyPost_ret (v:= .tuple #[.agg #[.int .i64 (0),.int .i64 (s*(K:Int)),.int .i64 (0),.int .i64 (D2-D1)],.int .i64 (0)]) (by simp [results,Tryz.results19,go_sem, *]) rfl ⟨rfl, ?_⟩
 iterate 4 refine Below.setCell ?_ (show w.heap.size<=w.heap.size+1+1 by omega) _
 exact hB4
theorem Gg(y n:Int)(l:Bool)(d z k:Int)(h:Bool)(f:Int)(ry rn:Int)(rl:Bool)(rd D1 D2 s:Int)(J K:Nat)(w:World)(hT:Tab w 7 kevCells)(hL:Tab w 5 lenCells)(HS:Hid (∀w:World,Tab w 7 kevCells->Tab w 5 lenCells->Calls Tryo.prog 61 #[.agg #[.int .i64 (y),.int .i64 (n),.bool (l),.int .i64 (d)],.agg #[.int .i64 (z),.int .i64 (k),.bool (h),.int .i64 (f)],.int .i64 3] w fun e w'=>e= .returned (.agg #[.int .i64 y,.int .i64 n,.bool l,.int .i64 d,.int .i64 z,.int .i64 k,.bool h,.int .i64 f,.int .i64 (s),.int .i64 (0),.int .i64 (0),.int .i64 (0),.int .i64 (0),.int .i64 (0)])/\Below w.heap.size w w'))(hy:I64 y)(ht:D10.aB z k h f=0)(hs:s=1∨s= -1)(hj:J<=200000)(hk:K<=200000)(yd:Hid (∀i:Nat,i<=J->U17.fit y n l d (s*(i:Int)) 0 s (D10.aF z k h f)=true))(yu:Hid (∀i:Nat,J<i->U17.fit y n l d (s*(i:Int)) 0 s (D10.aF z k h f)=false))(md:Hid (∀i:Nat,i<=K->U17.fit y n l d (s*(J:Int)) (s*(i:Int)) s (D10.aF z k h f)=true))(mu:Hid (∀i:Nat,K<i->U17.fit y n l d (s*(J:Int)) (s*(i:Int)) s (D10.aF z k h f)=false))(HA:Hid (∀w:World,Tab w 7 kevCells->Tab w 5 lenCells->Calls Tryo.prog 18 #[.agg #[.int .i64 (y),.int .i64 (n),.bool (l),.int .i64 (d)],.agg #[.int .i64 (s*(J:Int)),.int .i64 (s*(K:Int)),.int .i64 (0),.int .i64 (0)],.int .i64 0] w fun e w'=>e= .returned (.tuple #[.agg #[.int .i64 (ry),.int .i64 (rn),.bool (rl),.int .i64 (rd)],.int .i64 (0)])/\Below w.heap.size w w'))(HX:Hid (∀w:World,Tab w 7 kevCells->Tab w 5 lenCells->Calls Tryo.prog 15 #[.agg #[.int .i64 (ry),.int .i64 (rn),.bool (rl),.int .i64 (rd)]] w fun e w'=>e= .returned (.tuple #[.int .i64 (D1),.int .i64 0])/\Below w.heap.size w w'))(HY:Hid (∀w:World,Tab w 7 kevCells->Tab w 5 lenCells->Calls Tryo.prog 15 #[.agg #[.int .i64 (z),.int .i64 (k),.bool (h),.int .i64 (f)]] w fun e w'=>e= .returned (.tuple #[.int .i64 (D2),.int .i64 0])/\Below w.heap.size w w'))(h1: -3000000<=D1/\D1<=3000000)(h2: -3000000<=D2/\D2<=3000000):
  Calls Tryo.prog 19 #[.agg #[.int .i64 (y),.int .i64 (n),.bool (l),.int .i64 (d)],.agg #[.int .i64 (z),.int .i64 (k),.bool (h),.int .i64 (f)],.int .i64 3] w fun e w'=>e= .returned (.tuple #[.agg #[.int .i64 (s*(J:Int)),.int .i64 (s*(K:Int)),.int .i64 (0),.int .i64 (D2-D1)],.int .i64 (0)])/\Below w.heap.size w w':=by
 obtain⟨h11,h12⟩:=h1
 obtain⟨h21,h22⟩:=h2
 have hw1:=hT.lt
 have hw2:=hL.lt
 go_enter Tryo.func19,Tryz.ntmps19
 go_wp2_with fail
 refine aL (fun W=>iZ W (w.heap.size+1+1) 0 0 0 0/\Below w.heap.size w W) ⟨⟨by simp [go_sem],by simp [go_sem],by simp [go_sem],by simp [go_sem],fun i=>by simp [go_sem],by simp⟩,bel⟩ ?_
 rintro W0 ⟨hR0,hB0⟩
 refine(HS.out _ (Tab.below hT hB0) (Tab.below hL hB0)).mono ?_
 rintro e w1 ⟨rfl,hb1⟩
 have hR1:=bN hR0 hb1
 have hB1:=bt hB0 hb1
 go_wp2_with fail
 refine aL (fun W=>aK W w1.heap.size y n l d z k h f (s) 0 0 0 0 (0)/\iZ W (w.heap.size+1+1) 0 0 0 0/\Below w.heap.size w W) ⟨?_,bN hR1 bel,bt hB1 bel⟩ ?_
 ·first|exact aP w1 y n l d z k h f (s) 0 0 0 0 (0) 92|exact bJ (bX (dA (dL (fu (fQ (fP (fM (fH (fI (fT (fO (fU (fG (aP w1 0 0 false 0 0 0 false 0 0 0 0 0 0 0 92) _) _) _) _) _) _) _) _) _) _) _) _) _) _
 rintro W2 ⟨hP2,hR2,hB2⟩
 have hg:w.heap.size+1+1<w1.heap.size:=hR1.2.2.2.2.2
 have hT2:=Tab.below hT hB2
 have hL2:=Tab.below hL hB2
 clear hR0 hB0 hR1 hB1 hb1
 refine(Qv y n l d z k h f s 0 0 0 0 0 J w1.heap.size _ hT2 hL2 hy ht hs hj yd.out yu.out hP2).mono ?_
 rintro e W3 ⟨rfl,hP3,hU3⟩
 have hR3:=fC hR2 hU3 (by omega)
 have hB3:=hU3.below hB2 (by omega)
 have hT3:=But.tab hT2 hU3 (by omega)
 have hL3:=But.tab hL2 hU3 (by omega)
 go_wp2_with fail
 refine(Dx y n l d z k h f s (s*(J:Int)) 0 0 0 0 K w1.heap.size _ hT3 hL3 hy ht hs hk md.out mu.out hP3).mono ?_
 rintro e W4 ⟨rfl,hP4,hU4⟩
 have hR4:=fC hR3 hU4 (by omega)
 have hB4:=hU4.below hB3 (by omega)
 have hT4:=But.tab hT3 hU4 (by omega)
 have hL4:=But.tab hL3 hU4 (by omega)
 go_wp2_with fail
 refine(mW y n l d z k h f s (s*(J:Int)) (s*(K:Int)) 0 0 0 ry rn rl rd D1 D2 w1.heap.size _ hT4 hL4 HA HX HY ⟨by omega,by omega⟩ ⟨by omega,by omega⟩ hP4).mono ?_
 rintro e W5 ⟨rfl,hP5,hU5⟩
 have hR5:=fC hR4 hU5 (by omega)
 have hB5:=hU5.below hB4 (by omega)
 have hT5:=But.tab hT4 hU5 (by omega)
 have hL5:=But.tab hL4 hU5 (by omega)
 have hq:=hP5
 obtain⟨x0,x1,x2,x3,x4,x5,x6,x7,x8,x9,x10,x11,x12,x13,xf,xs⟩:=hq
 have hq:=hR5
 obtain⟨r0,r1,r2,r3,rf,rs⟩:=hq
 go_wp2_with fail
 refine bodyPost_ret (v:= .tuple #[.agg #[.int .i64 (s*(J:Int)),.int .i64 (s*(K:Int)),.int .i64 (0),.int .i64 (D2-D1)],.int .i64 (0)]) (by simp [results,Tryz.results19,go_sem, *]) rfl ⟨rfl, ?_⟩
 iterate 4 refine Below.setCell ?_ (show w.heap.size<=w.heap.size+1+1 by omega) _
 exact hB5
end
section
open Go.ChangeShapes Go.WideShapes Go.ChangeAt Go.RowKit
namespace U17
def DIs(y n:Int)(l:Bool)(d z k:Int)(h:Bool)(f:Int)(unit va vb vc vq er:Int):Prop:=
 (¬ (0<=unit/\unit<=3)/\er=1/\va=0/\vb=0/\vc=0/\vq=0)∨
 ((0<=unit/\unit<=3)/\er=(if D10.aB y n l d=0 then D10.aB z k h f else D10.aB y n l d)/\¬ er=0/\va=0/\vb=0/\vc=0/\vq=0)∨
 ((0<=unit/\unit<=3)/\D10.aB y n l d=0/\D10.aB z k h f=0/\er=0/\Is y n l d (D10.aF y n l d) (D10.aF z k h f) unit va vb vc vq)
theorem TP{y n d a b s B:Int}{l:Bool}(h:fit y n l d a b s B=true):A16.toE y n l d a b 0 0 0=0:=by
 unfold fit at h
 simp only [Bool.and_eq_true,decide_eq_true_eq]at h
 exact h.1
theorem CV{p:Nat->Bool}{K:Nat}(hd:∀{j k:Nat},j<=k->p k=true->p j=true)(hK:p (K+1)=false):∀i:Nat,K<i->p i=false:=by
 intro i hi
 cases c:p i
 ·rfl
 ·rw [hd (show K+1<=i from hi) c]at hK;cases hK
theorem small{p:Nat->Bool}{K N:Nat}(hK:p K=true)(hn:∀{k:Nat},N<=k->p k=false):K<N:=by
 rcases Nat.lt_or_ge K N with c|c
 ·exact c
 ·rw [hn c]at hK;cases hK
end U17
theorem sK(y n:Int)(l:Bool)(d a b:Int)(hy:I64 y)(h:A16.toE y n l d a b 0 0 0=0):∃ (ry rn:Int) (rl:Bool) (rd:Int),D10.aB ry rn rl rd=0/\D10.aF ry rn rl rd=A16.day y n l d a b 0 0 0/\I64 ry/\
  ∀w:World,Tab w 7 kevCells->Tab w 5 lenCells->Calls Tryo.prog 18 #[.agg #[.int .i64 (y),.int .i64 (n),.bool (l),.int .i64 (d)],.agg #[.int .i64 (a),.int .i64 (b),.int .i64 (0),.int .i64 (0)],.int .i64 0] w fun e w'=>e= .returned (.tuple #[.agg #[.int .i64 (ry),.int .i64 (rn),.bool (rl),.int .i64 (rd)],.int .i64 (0)])/\Below w.heap.size w w':=by
 obtain⟨ry,rn,rl,rd,er,hto⟩:=A16.JF y n l d a b 0 0 0
 obtain⟨rfl,r1,r2,r3,r4⟩:=hto.date h
 exact⟨ry,rn,rl,rd,r1,r2,⟨by omega,by omega⟩,fun w hT hL=>NZ y n l d a b 0 0 0 w hy hT hL ry rn rl rd 0 (Lib.hid hto)⟩
theorem jH(y n:Int)(l:Bool)(d:Int)(hy:I64 y)(h:D10.aB y n l d=0)(D:Int)(hD:D10.aF y n l d=D):∀w:World,Tab w 7 kevCells->Tab w 5 lenCells->Calls Tryo.prog 15 #[.agg #[.int .i64 (y),.int .i64 (n),.bool (l),.int .i64 (d)]] w fun e w'=>e= .returned (.tuple #[.int .i64 (D),.int .i64 0])/\Below w.heap.size w w':=by
 intro w hT hL
 have:=jB y n l d w hy hT hL
 rwa [h,hD]at this
theorem qW(y n:Int)(l:Bool)(d z k:Int)(h:Bool)(f:Int)(unit sv ev:Int)(hy:I64 y)(hz:I64 z)(hu:0<=unit/\unit<=3)(hs:sv=if D10.jG z k h f y n l d then -1 else 1)(he:ev=if D10.aB y n l d=0 then D10.aB z k h f else D10.aB y n l d)(w:World)(hT:Tab w 7 kevCells)(hL:Tab w 5 lenCells):
  Calls Tryo.prog 61 #[.agg #[.int .i64 (y),.int .i64 (n),.bool (l),.int .i64 (d)],.agg #[.int .i64 (z),.int .i64 (k),.bool (h),.int .i64 (f)],.int .i64 unit] w fun e w'=>e= .returned (.agg #[.int .i64 y,.int .i64 n,.bool l,.int .i64 d,.int .i64 z,.int .i64 k,.bool h,.int .i64 f,.int .i64 (sv),.int .i64 (0),.int .i64 (0),.int .i64 (0),.int .i64 (0),.int .i64 (ev)])/\Below w.heap.size w w':=by
 have HC1:=Lib.hid (fun w hT hL=>iY y n l d w hy hT hL)
 have HC2:=Lib.hid (fun w hT hL=>iY z k h f w hz hT hL)
 have HL2:=Lib.hid (fun w=>pI z k h f y n l d w)
 by_cases ha:D10.aB y n l d=0
 ·rw [if_pos ha]at he
  rw [ha]at HC1
  subst he
  cases hl:D10.jG z k h f y n l d
  ·rw [hl]at HL2 hs
   rw [show sv=1 from hs]
   exact p9 y n l d z k h f unit _ w hT hL HC1 HC2 HL2 hu
  ·rw [hl]at HL2 hs
   rw [show sv= -1 from hs]
   exact uj y n l d z k h f unit _ w hT hL HC1 HC2 HL2 hu
 ·rw [if_neg ha]at he
  subst he
  cases hl:D10.jG z k h f y n l d
  ·rw [hl]at HL2 hs
   rw [show sv=1 from hs]
   exact qY y n l d z k h f unit _ w hT hL HC1 HL2 (by simpa using ha) (by simpa using ha) hu
  ·rw [hl]at HL2 hs
   rw [show sv= -1 from hs]
   exact uh y n l d z k h f unit _ w hT hL HC1 HL2 (by simpa using ha) (by simpa using ha) hu
theorem OI(y n:Int)(l:Bool)(d z k:Int)(h:Bool)(f:Int)(unit:Int)(w:World)(hy:I64 y)(hz:I64 z)(hT:Tab w 7 kevCells)(hL:Tab w 5 lenCells)(va vb vc vq er:Int)(hres:Hid (U17.DIs y n l d z k h f unit va vb vc vq er)):
  Calls Tryo.prog 19 #[.agg #[.int .i64 (y),.int .i64 (n),.bool (l),.int .i64 (d)],.agg #[.int .i64 (z),.int .i64 (k),.bool (h),.int .i64 (f)],.int .i64 unit] w fun e w'=>e= .returned (.tuple #[.agg #[.int .i64 (va),.int .i64 (vb),.int .i64 (vc),.int .i64 (vq)],.int .i64 (er)])/\Below w.heap.size w w':=by
 rcases hres.out with ⟨hu,rfl,rfl,rfl,rfl,rfl⟩|⟨hu,he,hne,rfl,rfl,rfl,rfl⟩|⟨hu,ha,hb,rfl,hI⟩
 ·have HS:Hid (∀w:World,Tab w 7 kevCells->Tab w 5 lenCells->Calls Tryo.prog 61 #[.agg #[.int .i64 (y),.int .i64 (n),.bool (l),.int .i64 (d)],.agg #[.int .i64 (z),.int .i64 (k),.bool (h),.int .i64 (f)],.int .i64 unit] w fun e w'=>e= .returned (.agg #[.int .i64 y,.int .i64 n,.bool l,.int .i64 d,.int .i64 z,.int .i64 k,.bool h,.int .i64 f,.int .i64 (1),.int .i64 (0),.int .i64 (0),.int .i64 (0),.int .i64 (0),.int .i64 (1)])/\Below w.heap.size w w'):=Lib.hid (fun w _ _=>by
   by_cases c:unit<0
   ·exact Cn y n l d z k h f unit w c
   ·exact zZ y n l d z k h f unit w (by omega) (by omega))
  exact BD y n l d z k h f 1 1 unit w hT hL HS (by decide) (by simpa using(show ¬ unit=3 by omega)) (by simpa using(show ¬ unit=2 by omega)) (by simpa using(show ¬ unit=1 by omega))
 ·have HS:=Lib.hid (fun w hT hL=>qW y n l d z k h f unit _ er hy hz hu rfl he w hT hL)
  generalize (if D10.jG z k h f y n l d then(-1:Int)else 1)=sv at*
  rcases(show unit=0∨unit=1∨unit=2∨unit=3 by omega)with rfl|rfl|rfl|rfl
  ·exact BG y n l d z k h f sv er w hT hL HS hne
  ·exact BS y n l d z k h f sv er w hT hL HS hne
  ·exact Ck y n l d z k h f sv er w hT hL HS hne
  ·exact BL y n l d z k h f sv er w hT hL HS hne
 ·have HS:=Lib.hid (fun w hT hL=>qW y n l d z k h f unit (U17.sg (D10.aF y n l d) (D10.aF z k h f)) 0 hy hz hu (by rw [D10.pR hb ha];unfold U17.sg;simp) (by rw [if_pos ha,hb]) w hT hL)
  have hsg:=U17.Vv (D10.aF y n l d) (D10.aF z k h f)
  obtain⟨_,a1,a2⟩:=D10.iy y n l d ha
  obtain⟨_,b1,b2⟩:=D10.iy z k h f hb
  have HY:=Lib.hid (jH z k h f hz hb _ rfl)
  rcases hI with ⟨rfl,rfl,rfl,rfl,rfl⟩|⟨rfl,rfl,rfl,rfl,rfl⟩|⟨rfl,rfl,rfl,rfl,K,rfl,q0,qk,qk1⟩|⟨rfl,rfl,rfl,J,K,rfl,pj,pj1,rfl,q0,qk,qk1⟩
  ·obtain⟨e1,e2⟩:=A16.Cz (c:=0) (f:=0) (m:=0) ha rfl rfl
   rw [if_neg (by unfold A16.out;omega)]at e2
   obtain⟨ry,rn,rl,rd,r1,r2,r3,HA⟩:=sK y n l d 0 0 hy e2
   have HX:=Lib.hid (jH ry rn rl rd r3 r1 (D10.aF y n l d) (by rw [r2,e1];omega))
   exact F9 y n l d z k h f ry rn rl rd _ _ _ w hT hL HS (Lib.hid HA) HX HY ⟨by omega,by omega⟩ ⟨by omega,by omega⟩
  ·obtain⟨e1,e2⟩:=A16.Cz (c:=0) (f:=0) (m:=0) ha rfl rfl
   rw [if_neg (by unfold A16.out;omega)]at e2
   obtain⟨ry,rn,rl,rd,r1,r2,r3,HA⟩:=sK y n l d 0 0 hy e2
   have HX:=Lib.hid (jH ry rn rl rd r3 r1 (D10.aF y n l d) (by rw [r2,e1];omega))
   exact GI y n l d z k h f ry rn rl rd _ _ _ w hT hL HS (Lib.hid HA) HX HY ⟨by omega,by omega⟩ ⟨by omega,by omega⟩
  ·have hK:=U17.small (p:=U17.Q y n l d 0 (U17.sg (D10.aF y n l d) (D10.aF z k h f)) (D10.aF z k h f)) qk (fun hk=>U17.Q_no ha hsg hk)
   have ht:=U17.TP (show U17.fit y n l d 0 ((U17.sg (D10.aF y n l d) (D10.aF z k h f))*(K:Int)) (U17.sg (D10.aF y n l d) (D10.aF z k h f)) (D10.aF z k h f)=true from qk)
   obtain⟨ry,rn,rl,rd,r1,r2,r3,HA⟩:=sK y n l d 0 ((U17.sg (D10.aF y n l d) (D10.aF z k h f))*(K:Int)) hy ht
   obtain⟨_,d1,d2⟩:=D10.iy ry rn rl rd r1
   have HX:=Lib.hid (jH ry rn rl rd r3 r1 _ r2)
   rw [r2]at d1 d2
   exact F6 y n l d z k h f ry rn rl rd _ _ _ K w hT hL HS hy hb hsg (by omega) (Lib.hid (fun i hi=>U17.IK ha hsg q0 hi qk)) (Lib.hid (U17.CV (p:=U17.Q y n l d 0 (U17.sg (D10.aF y n l d) (D10.aF z k h f)) (D10.aF z k h f)) (fun hjk hk=>U17.IK ha hsg q0 hjk hk) qk1)) (Lib.hid HA) HX HY ⟨by omega,by omega⟩ ⟨by omega,by omega⟩
  ·have hJ:=U17.small (p:=U17.P y n l d (U17.sg (D10.aF y n l d) (D10.aF z k h f)) (D10.aF z k h f)) pj (fun hk=>U17.P_no ha hsg hk)
   have hK:=U17.small (p:=U17.Q y n l d ((U17.sg (D10.aF y n l d) (D10.aF z k h f))*(J:Int)) (U17.sg (D10.aF y n l d) (D10.aF z k h f)) (D10.aF z k h f)) qk (fun hk=>U17.Q_no ha hsg hk)
   have ht:=U17.TP (show U17.fit y n l d ((U17.sg (D10.aF y n l d) (D10.aF z k h f))*(J:Int)) ((U17.sg (D10.aF y n l d) (D10.aF z k h f))*(K:Int)) (U17.sg (D10.aF y n l d) (D10.aF z k h f)) (D10.aF z k h f)=true from qk)
   obtain⟨ry,rn,rl,rd,r1,r2,r3,HA⟩:=sK y n l d ((U17.sg (D10.aF y n l d) (D10.aF z k h f))*(J:Int)) ((U17.sg (D10.aF y n l d) (D10.aF z k h f))*(K:Int)) hy ht
   obtain⟨_,d1,d2⟩:=D10.iy ry rn rl rd r1
   have HX:=Lib.hid (jH ry rn rl rd r3 r1 _ r2)
   rw [r2]at d1 d2
   exact Gg y n l d z k h f ry rn rl rd _ _ _ J K w hT hL HS hy hb hsg (by omega) (by omega) (Lib.hid (fun i hi=>U17.Tq ha hsg hi pj)) (Lib.hid (U17.CV (p:=U17.P y n l d (U17.sg (D10.aF y n l d) (D10.aF z k h f)) (D10.aF z k h f)) (fun hjk hk=>U17.Tq ha hsg hjk hk) pj1)) (Lib.hid (fun i hi=>U17.IK ha hsg q0 hi qk)) (Lib.hid (U17.CV (p:=U17.Q y n l d ((U17.sg (D10.aF y n l d) (D10.aF z k h f))*(J:Int)) (U17.sg (D10.aF y n l d) (D10.aF z k h f)) (D10.aF z k h f)) (fun hjk hk=>U17.IK ha hsg q0 hjk hk) qk1)) (Lib.hid HA) HX HY ⟨by omega,by omega⟩ ⟨by omega,by omega⟩
end
end Go.Proofs.YthnjjcoahdhmnaaGreatDoor
