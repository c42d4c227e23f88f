import Derived.Test.YthnjjcoahdhmnaaGreatDoorOHR
import Derived.Test.YthnjjcoahdhmnaaGreatDoorOLC
import Derived.Deep.QuietTactic
import Derived.BigQuiet
import Derived.LoopTactic
import Derived.RegionTactic
import Derived.BigRegion
import Derived.Deep.RegionWith
set_option maxHeartbeats 8000000
set_option maxRecDepth 100000
set_option linter.unusedVariables false
namespace Go.Proofs.YthnjjcoahdhmnaaGreatDoor
section
open Go.ChangeShapes Go.WideShapes Go.ChangeAt Go.RowKit Go.Sort
namespace S15
def mode(m:Int):Bool:=decide (m=0)||decide (m=1)
def bK(y n:Int)(l:Bool)(m:Int):Int:=if mode m then(if Cal.bP y then(if Cal.right n l then(if Cal.dJ (Cal.leap y) n l then 0 else if m=1 then 7 else 0)else 3)else 2)else 1
def Ee(y n:Int)(l:Bool)(m:Int):Int:=if bK y n l m=0 then(if Cal.dJ (Cal.leap y) n l then n else 6)else 0
def Ef(y n:Int)(l:Bool)(m:Int):Bool:=if bK y n l m=0 then(if Cal.dJ (Cal.leap y) n l then l else false)else false
def mY(a:Int):Int:=(19*a+252) / 235
def mM(a:Int):Int:=a-Cal.before (mY a)+1
def dx(y n:Int)(l:Bool)(k:Int):Int:=Cal.before y+Cal.plV (Cal.leap y) n l-1+k
def monE(y n:Int)(l:Bool)(k:Int):Int:=if D10.bq y n l=0 then(if k< -4000000∨4000000<k then 1 else if dx y n l k<0∨123671<=dx y n l k then 2 else 0)else D10.bq y n l
def pG(y n:Int)(l:Bool)(k:Int):Int:=if monE y n l k=0 then mY (dx y n l k)else 0
def uR(y n:Int)(l:Bool)(k:Int):Int:=if monE y n l k=0 then Cal.ofN (Cal.leap (mY (dx y n l k))) (mM (dx y n l k))else 0
def u6(y n:Int)(l:Bool)(k:Int):Bool:=if monE y n l k=0 then Cal.ofL (Cal.leap (mY (dx y n l k))) (mM (dx y n l k))else false
def mI(y n:Int)(l:Bool)(d m:Int):Int:=if mode m then(if D10.bq y n l=0 then(if d<1∨30<d then 4 else if d<=D10.aZ y n l then 0 else if m=1 then 7 else 0)else D10.bq y n l)else 1
def Dh(y n:Int)(l:Bool)(d m:Int):Int:=if mI y n l d m=0 then(if d<=D10.aZ y n l then d else D10.aZ y n l)else 0
theorem OY(a:Int):Cal.before (mY a)<=a/\a<Cal.before (mY a+1):=by unfold mY Cal.before;omega
theorem fV(a b:Int)(h:a<=b):Cal.before a<=Cal.before b:=by unfold Cal.before;omega
theorem Wm(a y:Int)(h1:Cal.before y<=a)(h2:a<Cal.before (y+1)):mY a=y:=by unfold Cal.before at h1 h2;unfold mY;omega
theorem qQ(y:Int):Cal.before (y+1)=Cal.before y+Cal.most (Cal.leap y):=by
 obtain⟨q,r,e,r0,r1⟩:∃q r:Int,y=19*q+r/\0<=r/\r<19:=⟨y / 19,y % 19,by omega,by omega,by omega⟩
 subst e
 unfold Cal.before Cal.most Cal.leap
 rw [show(7*(19*q+r)+1) % 19=(7*r+1) % 19 by omega,show(235*(19*q+r+1)-234) / 19=235*q+(235*r+1) / 19 by omega,show(235*(19*q+r)-234) / 19=235*q+(235*r-234) / 19 by omega]
 rcases(show r=0∨r=1∨r=2∨r=3∨r=4∨r=5∨r=6∨r=7∨r=8∨r=9∨r=10∨r=11∨r=12∨r=13∨r=14∨r=15∨r=16∨r=17∨r=18 by omega)with rfl|rfl|rfl|rfl|rfl|rfl|rfl|rfl|rfl|rfl|rfl|rfl|rfl|rfl|rfl|rfl|rfl|rfl|rfl <;> simp <;> omega
theorem qc:Cal.before 1=0:=by decide
theorem jT:Cal.before 10000=123671:=by decide+kernel
theorem O8(a:Int)(h0:0<=a)(h1:a<123671):1<=mY a/\mY a<=9999:=by unfold mY;omega
theorem O3(a:Int):1<=mM a/\mM a<=Cal.most (Cal.leap (mY a)):=by
 have:=OY a
 rw [qQ]at this
 unfold mM;omega
theorem RQ(a:Int)(h0:0<=a)(h1:a<123671):
  (((List.range 9998).countP (fun i:Nat=> !decide (a<Cal.before ((i:Int)+2))):Nat):Int)=mY a-1:=by
 obtain⟨y1,y2⟩:=O8 a h0 h1
 obtain⟨s1,s2⟩:=OY a
 have hr:∀t,t<9998->(List.range 9998)[t]! =t:=fun t ht=>by rw [getElem!_pos _ t (by simpa using ht)];simp
 have:=Lib.countP_boundary (fun i:Nat=> !decide (a<Cal.before ((i:Int)+2))) (List.range 9998) (mY a-1).toNat (by simp;omega) (fun t ht=> ?_) (fun t h5 h6=> ?_)
 ·rw [this];omega
 ·rw [hr t (by omega)]
  have:=fV ((t:Int)+2) (mY a) (by omega)
  simp only [Bool.not_eq_true',decide_eq_false_iff_not]
  omega
 ·rw [hr t (by simpa using h6)]
  have:=fV (mY a+1) ((t:Int)+2) (by omega)
  simp only [Bool.not_eq_false',decide_eq_true_eq]
  omega
theorem nu{y n:Int}{l:Bool}(h:D10.bq y n l=0):1<=y/\y<=9999/\Cal.dJ (Cal.leap y) n l=true:=by
 unfold D10.bq at h
 split at h
 ·rename_i c
  split at h
  ·rename_i p
   obtain⟨h1,h2⟩:=D10.mZ y c
   exact⟨h1,h2,p⟩
  ·omega
 ·omega
theorem jC(y:Int)(h1:0<=y)(h2:y<=10000): -20<=Cal.before y/\Cal.before y<=123671:=by unfold Cal.before;omega
theorem NS(lp:Bool)(n:Int)(l:Bool)(h:Cal.dJ lp n l=true):1<=Cal.plV lp n l/\Cal.plV lp n l<=13:=by
 obtain⟨a,b,_⟩:=D10.jM lp n l h
 unfold Cal.most at b
 refine⟨a, ?_⟩
 split at b <;> omega
theorem mG{y n:Int}{l:Bool}(h:D10.bq y n l=0):29<=D10.aZ y n l/\D10.aZ y n l<=30:=by
 obtain⟨h1,h2,p⟩:=nu h
 obtain⟨a,b,_⟩:=D10.jM _ _ _ p
 have e:D10.aZ y n l=D10.dLen y (Cal.plV (Cal.leap y) n l):=by simp [D10.aZ,Cal.dD y h1 h2,p]
 rw [e]
 exact D10.jQ y _ h1 h2 a b
end S15
def aH(w:World)(g:Nat)(n:Int)(l:Bool):Prop:=w.cell? ⟨g,0,none⟩=some (.int .i64 n)/\w.cell? ⟨g,1,none⟩=some (.bool l)/\(∀i,w.frozen? ⟨g,i,none⟩=false)/\g<w.heap.size
theorem aH.below{w w':World}{g:Nat}{n:Int}{l:Bool}(h:aH w g n l)(hb:Below w.heap.size w w'):aH w' g n l:=by
 obtain⟨h0,h1,hf,hs⟩:=h
 have c:=fun i=>hb.cell (p:=⟨g,i,none⟩) hs
 exact⟨(c 0).trans h0,(c 1).trans h1,fun i=>(hb.frozen (p:=⟨g,i,none⟩) hs).trans (hf i),Nat.lt_of_lt_of_le hs hb.size⟩
theorem bE(w:World)(n:Int)(l:Bool)(t:TypeId):aH (w.alloc (.cells #[.int .i64 n,.bool l] t)) w.heap.size n l:=⟨by simp [go_sem],by simp [go_sem],fun i=>by simp [go_sem],by simp⟩
theorem bC(w:World)(o:Obj)(n:Int)(l:Bool)(t:TypeId):aH ((w.alloc o).alloc (.cells #[.int .i64 n,.bool l] t)) (w.heap.size+1) n l:=by
 have h:=bE (w.alloc o) n l t
 rwa [show(w.alloc o).heap.size=w.heap.size+1 by simp]at h
theorem bF(m:Int)(w:World):Calls Tryo.prog 194 #[.int .i64 m] w fun e w'=>e= .returned (.bool (S15.mode m))/\w=w':=by
 by_cases a:m=0
 ·subst a
  go_enter Tryo.func194,Tryz.ntmps194
  go_wp2_with fail
  go_ret
  exact⟨rfl,rfl⟩
 ·by_cases b:m=1
  ·subst b
   go_enter Tryo.func194,Tryz.ntmps194
   go_wp2_with fail
   go_ret
   exact⟨rfl,rfl⟩
  ·have e1:(m==0)=false:=by simp [a]
   have e2:(m==1)=false:=by simp [b]
   rw [show S15.mode m=false by simp [S15.mode,a,b]]
   clear a b
   go_enter Tryo.func194,Tryz.ntmps194
   go_wp2_with fail
   go_ret
   exact⟨rfl,rfl⟩
theorem bT(y:Int)(w:World)(h0:0<=y)(h1:y<=10001):Calls Tryo.prog 195 #[.int .i64 y] w fun e w'=>e= .returned (.int .i64 (Cal.before y))/\w=w':=by
 have H:=Lib.hid (fun w=>oZ y w h0 h1)
 generalize Cal.before y=b at*
 go_enter Tryo.func195,Tryz.ntmps195
 go_wp2_with fail
 refine(H.out _).mono ?_
 rintro e w' ⟨rfl,rfl⟩
 go_wp2_with fail
 go_ret
 exact⟨rfl,rfl⟩
theorem Cm(y n:Int)(l:Bool)(m:Int)(w:World)(hm:S15.mode m=false):
  Calls Tryo.prog 132 #[.int .i64 y,.agg #[.int .i64 n,.bool l],.int .i64 m] w fun e w'=>e= .returned (.tuple #[.agg #[.int .i64 0,.bool false],.int .i64 1])/\Below w.heap.size w w':=by
 have HM:=Lib.hid (fun w=>(hm▸bF m w:Calls Tryo.prog 194 #[.int .i64 m] w fun e w'=>e= .returned (.bool false)/\w=w'))
 clear hm
 go_enter Tryo.func132,Tryz.ntmps132
 go_wp2_with fail
 refine aL (fun W=>aH W w.heap.size n l/\aH W (w.heap.size+1) 0 false/\Below w.heap.size w W) ⟨aH.below (bE _ _ _ _) (ba _ _),bC _ _ _ _ _,baa (ba _ _) _⟩ ?_
 rintro W0 ⟨hC0,hR0,hB0⟩
 have hq:=hC0
 obtain⟨c0,c1,cf,cs⟩:=hq
 have hq:=hR0
 obtain⟨r0,r1,rf,rs⟩:=hq
 refine(HM.out _).mono ?_
 rintro e w' ⟨rfl,rfl⟩
 go_wp2_with fail
 refine bodyPost_ret (v:= .tuple #[.agg #[.int .i64 0,.bool false],.int .i64 1]) (by simp [results,Tryz.results132,go_sem, *]) rfl ⟨rfl, ?_⟩
 iterate 2 refine Below.setCell ?_ (by first|omega|(simp;done)) _
 exact hB0
theorem Ep(y n:Int)(l:Bool)(m:Int)(w:World)(hm:S15.mode m=true)(h:y<1):
  Calls Tryo.prog 132 #[.int .i64 y,.agg #[.int .i64 n,.bool l],.int .i64 m] w fun e w'=>e= .returned (.tuple #[.agg #[.int .i64 0,.bool false],.int .i64 2])/\Below w.heap.size w w':=by
 have HM:=Lib.hid (fun w=>(hm▸bF m w:Calls Tryo.prog 194 #[.int .i64 m] w fun e w'=>e= .returned (.bool true)/\w=w'))
 clear hm
 go_enter Tryo.func132,Tryz.ntmps132
 go_wp2_with fail
 refine aL (fun W=>aH W w.heap.size n l/\aH W (w.heap.size+1) 0 false/\Below w.heap.size w W) ⟨aH.below (bE _ _ _ _) (ba _ _),bC _ _ _ _ _,baa (ba _ _) _⟩ ?_
 rintro W0 ⟨hC0,hR0,hB0⟩
 have hq:=hC0
 obtain⟨c0,c1,cf,cs⟩:=hq
 have hq:=hR0
 obtain⟨r0,r1,rf,rs⟩:=hq
 refine(HM.out _).mono ?_
 rintro e w' ⟨rfl,rfl⟩
 go_wp2_with fail
 refine bodyPost_ret (v:= .tuple #[.agg #[.int .i64 0,.bool false],.int .i64 2]) (by simp [results,Tryz.results132,go_sem, *]) rfl ⟨rfl, ?_⟩
 iterate 2 refine Below.setCell ?_ (by first|omega|(simp;done)) _
 exact hB0
theorem BQ(y n:Int)(l:Bool)(m:Int)(w:World)(hm:S15.mode m=true)(h0:1<=y)(h:9999<y):
  Calls Tryo.prog 132 #[.int .i64 y,.agg #[.int .i64 n,.bool l],.int .i64 m] w fun e w'=>e= .returned (.tuple #[.agg #[.int .i64 0,.bool false],.int .i64 2])/\Below w.heap.size w w':=by
 have HM:=Lib.hid (fun w=>(hm▸bF m w:Calls Tryo.prog 194 #[.int .i64 m] w fun e w'=>e= .returned (.bool true)/\w=w'))
 clear hm
 go_enter Tryo.func132,Tryz.ntmps132
 go_wp2_with fail
 refine aL (fun W=>aH W w.heap.size n l/\aH W (w.heap.size+1) 0 false/\Below w.heap.size w W) ⟨aH.below (bE _ _ _ _) (ba _ _),bC _ _ _ _ _,baa (ba _ _) _⟩ ?_
 rintro W0 ⟨hC0,hR0,hB0⟩
 have hq:=hC0
 obtain⟨c0,c1,cf,cs⟩:=hq
 have hq:=hR0
 obtain⟨r0,r1,rf,rs⟩:=hq
 refine(HM.out _).mono ?_
 rintro e w' ⟨rfl,rfl⟩
 go_wp2_with fail
 refine bodyPost_ret (v:= .tuple #[.agg #[.int .i64 0,.bool false],.int .i64 2]) (by simp [results,Tryz.results132,go_sem, *]) rfl ⟨rfl, ?_⟩
 iterate 2 refine Below.setCell ?_ (by first|omega|(simp;done)) _
 exact hB0
theorem zM(y n:Int)(l:Bool)(m:Int)(w:World)(hm:S15.mode m=true)(h1:1<=y)(h2:y<=9999)(hr:Cal.right n l=false):
  Calls Tryo.prog 132 #[.int .i64 y,.agg #[.int .i64 n,.bool l],.int .i64 m] w fun e w'=>e= .returned (.tuple #[.agg #[.int .i64 0,.bool false],.int .i64 3])/\Below w.heap.size w w':=by
 have HM:=Lib.hid (fun w=>(hm▸bF m w:Calls Tryo.prog 194 #[.int .i64 m] w fun e w'=>e= .returned (.bool true)/\w=w'))
 clear hm
 have HR:=Lib.hid (fun w=>(hr▸jD n l w:Calls Tryo.prog 127 #[.agg #[.int .i64 n,.bool l]] w fun e w'=>e= .returned (.bool false)/\Below w.heap.size w w'))
 clear hr
 go_enter Tryo.func132,Tryz.ntmps132
 go_wp2_with fail
 refine aL (fun W=>aH W w.heap.size n l/\aH W (w.heap.size+1) 0 false/\Below w.heap.size w W) ⟨aH.below (bE _ _ _ _) (ba _ _),bC _ _ _ _ _,baa (ba _ _) _⟩ ?_
 rintro W0 ⟨hC0,hR0,hB0⟩
 have hq:=hC0
 obtain⟨c0,c1,cf,cs⟩:=hq
 have hq:=hR0
 obtain⟨r0,r1,rf,rs⟩:=hq
 refine(HM.out _).mono ?_
 rintro e w' ⟨rfl,rfl⟩
 go_wp2_with fail
 refine(HR.out _).mono ?_
 rintro e W1 ⟨rfl,hb1⟩
 have hC1:=aH.below hC0 hb1
 have hR1:=aH.below hR0 hb1
 have hB1:=bt hB0 hb1
 clear c0 c1 cf cs r0 r1 rf rs
 have hq:=hC1
 obtain⟨c0,c1,cf,cs⟩:=hq
 have hq:=hR1
 obtain⟨r0,r1,rf,rs⟩:=hq
 go_wp2_with fail
 refine bodyPost_ret (v:= .tuple #[.agg #[.int .i64 0,.bool false],.int .i64 3]) (by simp [results,Tryz.results132,go_sem, *]) rfl ⟨rfl, ?_⟩
 iterate 2 refine Below.setCell ?_ (by first|omega|(simp;done)) _
 exact hB1
theorem FM(y n:Int)(l:Bool)(m:Int)(w:World)(hm:S15.mode m=true)(h1:1<=y)(h2:y<=9999)(hr:Cal.right n l=true)(hp:Cal.dJ (Cal.leap y) n l=true):
  Calls Tryo.prog 132 #[.int .i64 y,.agg #[.int .i64 n,.bool l],.int .i64 m] w fun e w'=>e= .returned (.tuple #[.agg #[.int .i64 n,.bool l],.int .i64 0])/\Below w.heap.size w w':=by
 have HM:=Lib.hid (fun w=>(hm▸bF m w:Calls Tryo.prog 194 #[.int .i64 m] w fun e w'=>e= .returned (.bool true)/\w=w'))
 clear hm
 have HR:=Lib.hid (fun w=>(hr▸jD n l w:Calls Tryo.prog 127 #[.agg #[.int .i64 n,.bool l]] w fun e w'=>e= .returned (.bool true)/\Below w.heap.size w w'))
 clear hr
 have HL:=Lib.hid (fun w=>aT y w (by omega) (by omega))
 have HP:=Lib.hid (fun w=>(hp▸bU (Cal.leap y) n l w:Calls Tryo.prog 191 #[.bool (Cal.leap y),.agg #[.int .i64 n,.bool l]] w fun e w'=>e= .returned (.tuple #[.int .i64 (Cal.plV (Cal.leap y) n l),.bool true])/\Below w.heap.size w w'))
 clear hp
 generalize Cal.plV (Cal.leap y) n l=pv at*
 generalize Cal.leap y=lp at*
 go_enter Tryo.func132,Tryz.ntmps132
 go_wp2_with fail
 refine aL (fun W=>aH W w.heap.size n l/\aH W (w.heap.size+1) 0 false/\Below w.heap.size w W) ⟨aH.below (bE _ _ _ _) (ba _ _),bC _ _ _ _ _,baa (ba _ _) _⟩ ?_
 rintro W0 ⟨hC0,hR0,hB0⟩
 have hq:=hC0
 obtain⟨c0,c1,cf,cs⟩:=hq
 have hq:=hR0
 obtain⟨r0,r1,rf,rs⟩:=hq
 refine(HM.out _).mono ?_
 rintro e w' ⟨rfl,rfl⟩
 go_wp2_with fail
 refine(HR.out _).mono ?_
 rintro e W1 ⟨rfl,hb1⟩
 have hC1:=aH.below hC0 hb1
 have hR1:=aH.below hR0 hb1
 have hB1:=bt hB0 hb1
 clear c0 c1 cf cs r0 r1 rf rs
 have hq:=hC1
 obtain⟨c0,c1,cf,cs⟩:=hq
 have hq:=hR1
 obtain⟨r0,r1,rf,rs⟩:=hq
 go_wp2_with fail
 refine(HL.out _).mono ?_
 rintro e w' ⟨rfl,rfl⟩
 go_wp2_with fail
 refine(HP.out _).mono ?_
 rintro e W2 ⟨rfl,hb2⟩
 have hC2:=aH.below hC1 hb2
 have hR2:=aH.below hR1 hb2
 have hB2:=bt hB1 hb2
 clear c0 c1 cf cs r0 r1 rf rs
 have hq:=hC2
 obtain⟨c0,c1,cf,cs⟩:=hq
 have hq:=hR2
 obtain⟨r0,r1,rf,rs⟩:=hq
 go_wp2_with fail
 refine bodyPost_ret (v:= .tuple #[.agg #[.int .i64 n,.bool l],.int .i64 0]) (by simp [results,Tryz.results132,go_sem, *]) rfl ⟨rfl, ?_⟩
 iterate 2 refine Below.setCell ?_ (by first|omega|(simp;done)) _
 exact hB2
theorem EG(y n:Int)(l:Bool)(m:Int)(w:World)(hm:S15.mode m=true)(h1:1<=y)(h2:y<=9999)(hr:Cal.right n l=true)(hp:Cal.dJ (Cal.leap y) n l=false)(h7:m=1):
  Calls Tryo.prog 132 #[.int .i64 y,.agg #[.int .i64 n,.bool l],.int .i64 m] w fun e w'=>e= .returned (.tuple #[.agg #[.int .i64 0,.bool false],.int .i64 7])/\Below w.heap.size w w':=by
 subst h7
 have HM:=Lib.hid (fun w=>(hm▸bF 1 w:Calls Tryo.prog 194 #[.int .i64 1] w fun e w'=>e= .returned (.bool true)/\w=w'))
 clear hm
 have HR:=Lib.hid (fun w=>(hr▸jD n l w:Calls Tryo.prog 127 #[.agg #[.int .i64 n,.bool l]] w fun e w'=>e= .returned (.bool true)/\Below w.heap.size w w'))
 clear hr
 have HL:=Lib.hid (fun w=>aT y w (by omega) (by omega))
 have HP:=Lib.hid (fun w=>(hp▸bU (Cal.leap y) n l w:Calls Tryo.prog 191 #[.bool (Cal.leap y),.agg #[.int .i64 n,.bool l]] w fun e w'=>e= .returned (.tuple #[.int .i64 (Cal.plV (Cal.leap y) n l),.bool false])/\Below w.heap.size w w'))
 clear hp
 generalize Cal.plV (Cal.leap y) n l=pv at*
 generalize Cal.leap y=lp at*
 go_enter Tryo.func132,Tryz.ntmps132
 go_wp2_with fail
 refine aL (fun W=>aH W w.heap.size n l/\aH W (w.heap.size+1) 0 false/\Below w.heap.size w W) ⟨aH.below (bE _ _ _ _) (ba _ _),bC _ _ _ _ _,baa (ba _ _) _⟩ ?_
 rintro W0 ⟨hC0,hR0,hB0⟩
 have hq:=hC0
 obtain⟨c0,c1,cf,cs⟩:=hq
 have hq:=hR0
 obtain⟨r0,r1,rf,rs⟩:=hq
 refine(HM.out _).mono ?_
 rintro e w' ⟨rfl,rfl⟩
 go_wp2_with fail
 refine(HR.out _).mono ?_
 rintro e W1 ⟨rfl,hb1⟩
 have hC1:=aH.below hC0 hb1
 have hR1:=aH.below hR0 hb1
 have hB1:=bt hB0 hb1
 clear c0 c1 cf cs r0 r1 rf rs
 have hq:=hC1
 obtain⟨c0,c1,cf,cs⟩:=hq
 have hq:=hR1
 obtain⟨r0,r1,rf,rs⟩:=hq
 go_wp2_with fail
 refine(HL.out _).mono ?_
 rintro e w' ⟨rfl,rfl⟩
 go_wp2_with fail
 refine(HP.out _).mono ?_
 rintro e W2 ⟨rfl,hb2⟩
 have hC2:=aH.below hC1 hb2
 have hR2:=aH.below hR1 hb2
 have hB2:=bt hB1 hb2
 clear c0 c1 cf cs r0 r1 rf rs
 have hq:=hC2
 obtain⟨c0,c1,cf,cs⟩:=hq
 have hq:=hR2
 obtain⟨r0,r1,rf,rs⟩:=hq
 go_wp2_with fail
 refine bodyPost_ret (v:= .tuple #[.agg #[.int .i64 0,.bool false],.int .i64 7]) (by simp [results,Tryz.results132,go_sem, *]) rfl ⟨rfl, ?_⟩
 iterate 2 refine Below.setCell ?_ (by first|omega|(simp;done)) _
 exact hB2
theorem DZ(y n:Int)(l:Bool)(m:Int)(w:World)(hm:S15.mode m=true)(h1:1<=y)(h2:y<=9999)(hr:Cal.right n l=true)(hp:Cal.dJ (Cal.leap y) n l=false)(h7:m=0):
  Calls Tryo.prog 132 #[.int .i64 y,.agg #[.int .i64 n,.bool l],.int .i64 m] w fun e w'=>e= .returned (.tuple #[.agg #[.int .i64 6,.bool false],.int .i64 0])/\Below w.heap.size w w':=by
 subst h7
 have HM:=Lib.hid (fun w=>(hm▸bF 0 w:Calls Tryo.prog 194 #[.int .i64 0] w fun e w'=>e= .returned (.bool true)/\w=w'))
 clear hm
 have HR:=Lib.hid (fun w=>(hr▸jD n l w:Calls Tryo.prog 127 #[.agg #[.int .i64 n,.bool l]] w fun e w'=>e= .returned (.bool true)/\Below w.heap.size w w'))
 clear hr
 have HL:=Lib.hid (fun w=>aT y w (by omega) (by omega))
 have HP:=Lib.hid (fun w=>(hp▸bU (Cal.leap y) n l w:Calls Tryo.prog 191 #[.bool (Cal.leap y),.agg #[.int .i64 n,.bool l]] w fun e w'=>e= .returned (.tuple #[.int .i64 (Cal.plV (Cal.leap y) n l),.bool false])/\Below w.heap.size w w'))
 clear hp
 generalize Cal.plV (Cal.leap y) n l=pv at*
 generalize Cal.leap y=lp at*
 go_enter Tryo.func132,Tryz.ntmps132
 go_wp2_with fail
 refine aL (fun W=>aH W w.heap.size n l/\aH W (w.heap.size+1) 0 false/\Below w.heap.size w W) ⟨aH.below (bE _ _ _ _) (ba _ _),bC _ _ _ _ _,baa (ba _ _) _⟩ ?_
 rintro W0 ⟨hC0,hR0,hB0⟩
 have hq:=hC0
 obtain⟨c0,c1,cf,cs⟩:=hq
 have hq:=hR0
 obtain⟨r0,r1,rf,rs⟩:=hq
 refine(HM.out _).mono ?_
 rintro e w' ⟨rfl,rfl⟩
 go_wp2_with fail
 refine(HR.out _).mono ?_
 rintro e W1 ⟨rfl,hb1⟩
 have hC1:=aH.below hC0 hb1
 have hR1:=aH.below hR0 hb1
 have hB1:=bt hB0 hb1
 clear c0 c1 cf cs r0 r1 rf rs
 have hq:=hC1
 obtain⟨c0,c1,cf,cs⟩:=hq
 have hq:=hR1
 obtain⟨r0,r1,rf,rs⟩:=hq
 go_wp2_with fail
 refine(HL.out _).mono ?_
 rintro e w' ⟨rfl,rfl⟩
 go_wp2_with fail
 refine(HP.out _).mono ?_
 rintro e W2 ⟨rfl,hb2⟩
 have hC2:=aH.below hC1 hb2
 have hR2:=aH.below hR1 hb2
 have hB2:=bt hB1 hb2
 clear c0 c1 cf cs r0 r1 rf rs
 have hq:=hC2
 obtain⟨c0,c1,cf,cs⟩:=hq
 have hq:=hR2
 obtain⟨r0,r1,rf,rs⟩:=hq
 go_wp2_with fail
 refine bodyPost_ret (v:= .tuple #[.agg #[.int .i64 6,.bool false],.int .i64 0]) (by simp [results,Tryz.results132,go_sem, *]) rfl ⟨rfl, ?_⟩
 iterate 2 refine Below.setCell ?_ (by first|omega|(simp;done)) _
 exact hB2
theorem NI(y n:Int)(l:Bool)(m:Int)(w:World):
  Calls Tryo.prog 132 #[.int .i64 y,.agg #[.int .i64 n,.bool l],.int .i64 m] w fun e w'=>e= .returned (.tuple #[.agg #[.int .i64 (S15.Ee y n l m),.bool (S15.Ef y n l m)],.int .i64 (S15.bK y n l m)])/\Below w.heap.size w w':=by
 unfold S15.Ee S15.Ef
 cases hm:S15.mode m
 ·rw [show S15.bK y n l m=1 by simp [S15.bK,hm]]
  exact Cm y n l m w hm
 cases hy:Cal.bP y
 ·rw [show S15.bK y n l m=2 by simp [S15.bK,hm,hy]]
  rcases D10.EF y hy with c|c
  ·exact Ep y n l m w hm c
  ·exact BQ y n l m w hm (by omega) c
 obtain⟨h1,h2⟩:=D10.mZ y hy
 cases hr:Cal.right n l
 ·rw [show S15.bK y n l m=3 by simp [S15.bK,hm,hy,hr]]
  exact zM y n l m w hm h1 h2 hr
 cases hp:Cal.dJ (Cal.leap y) n l
 ·by_cases c:m=1
  ·rw [show S15.bK y n l m=7 by subst c;simp [S15.bK,hm,hy,hr,hp]]
   exact EG y n l m w hm h1 h2 hr hp c
  ·have c0:m=0:=by simp [S15.mode,c]at hm;exact hm
   rw [show S15.bK y n l m=0 by simp [S15.bK,hm,hy,hr,hp,c]]
   exact DZ y n l m w hm h1 h2 hr hp c0
 ·rw [show S15.bK y n l m=0 by simp [S15.bK,hm,hy,hr,hp]]
  exact FM y n l m w hm h1 h2 hr hp
theorem EI(y n:Int)(l:Bool)(d m:Int)(w:World)(hy:I64 y)(hT:Tab w 7 kevCells)(hL:Tab w 5 lenCells)(hm:S15.mode m=false):
  Calls Tryo.prog 134 #[.int .i64 y,.agg #[.int .i64 n,.bool l],.int .i64 d,.int .i64 m] w fun e w'=>e= .returned (.tuple #[.int .i64 0,.int .i64 1])/\Below w.heap.size w w':=by
 have HM:=Lib.hid (fun w=>(hm▸bF m w:Calls Tryo.prog 194 #[.int .i64 m] w fun e w'=>e= .returned (.bool false)/\w=w'))
 clear hm
 go_enter Tryo.func134,Tryz.ntmps134
 go_wp2_with fail
 refine(HM.out _).mono ?_
 rintro e w' ⟨rfl,rfl⟩
 go_wp2_with fail
 go_ret2
 refine⟨rfl, ?_⟩
 exact ben
theorem Em(y n:Int)(l:Bool)(d m:Int)(w:World)(hy:I64 y)(hT:Tab w 7 kevCells)(hL:Tab w 5 lenCells)(hm:S15.mode m=true)(he:¬ D10.bq y n l=0):
  Calls Tryo.prog 134 #[.int .i64 y,.agg #[.int .i64 n,.bool l],.int .i64 d,.int .i64 m] w fun e w'=>e= .returned (.tuple #[.int .i64 0,.int .i64 (D10.bq y n l)])/\Below w.heap.size w w':=by
 have HM:=Lib.hid (fun w=>(hm▸bF m w:Calls Tryo.prog 194 #[.int .i64 m] w fun e w'=>e= .returned (.bool true)/\w=w'))
 clear hm
 have HL:=Lib.hid (fun w hT hL=>dN y n l w hy hT hL)
 generalize D10.bq y n l=le at*
 generalize D10.aZ y n l=lv at*
 have he2:(le !=0)=true:=by simpa using he
 go_enter Tryo.func134,Tryz.ntmps134
 go_wp2_with fail
 refine(HM.out _).mono ?_
 rintro e w' ⟨rfl,rfl⟩
 go_wp2_with fail
 refine(HL.out _ (Tab.below hT ben) (Tab.below hL ben)).mono ?_
 rintro e w1 ⟨rfl,hb1⟩
 obtain⟨hc1,hf1⟩:=aA hb1
 have hz1:=hb1.size
 try simp at hz1
 have hs1x0:w.heap.size<w1.heap.size:=by omega
 have g1x0:w1.cell? ⟨w.heap.size,0,none⟩=some (.int .i64 n):=cel hc1
 have g1x1:w1.cell? ⟨w.heap.size,1,none⟩=some (.bool l):=cel hc1
 go_wp2_with fail
 go_ret2
 refine⟨rfl, ?_⟩
 exact ben
theorem Gi(y n:Int)(l:Bool)(d m:Int)(w:World)(hy:I64 y)(hT:Tab w 7 kevCells)(hL:Tab w 5 lenCells)(hm:S15.mode m=true)(he:D10.bq y n l=0)(hd:d<1):
  Calls Tryo.prog 134 #[.int .i64 y,.agg #[.int .i64 n,.bool l],.int .i64 d,.int .i64 m] w fun e w'=>e= .returned (.tuple #[.int .i64 0,.int .i64 4])/\Below w.heap.size w w':=by
 have HM:=Lib.hid (fun w=>(hm▸bF m w:Calls Tryo.prog 194 #[.int .i64 m] w fun e w'=>e= .returned (.bool true)/\w=w'))
 clear hm
 have hbd:=S15.mG he
 have HL:=Lib.hid (fun w hT hL=>dN y n l w hy hT hL)
 rw [he]at HL
 clear he
 generalize D10.aZ y n l=lv at*
 go_enter Tryo.func134,Tryz.ntmps134
 go_wp2_with fail
 refine(HM.out _).mono ?_
 rintro e w' ⟨rfl,rfl⟩
 go_wp2_with fail
 refine(HL.out _ (Tab.below hT ben) (Tab.below hL ben)).mono ?_
 rintro e w1 ⟨rfl,hb1⟩
 obtain⟨hc1,hf1⟩:=aA hb1
 have hz1:=hb1.size
 try simp at hz1
 have hs1x0:w.heap.size<w1.heap.size:=by omega
 have g1x0:w1.cell? ⟨w.heap.size,0,none⟩=some (.int .i64 n):=cel hc1
 have g1x1:w1.cell? ⟨w.heap.size,1,none⟩=some (.bool l):=cel hc1
 go_wp2_with fail
 go_ret2
 refine⟨rfl, ?_⟩
 exact ben
theorem CO(y n:Int)(l:Bool)(d m:Int)(w:World)(hy:I64 y)(hT:Tab w 7 kevCells)(hL:Tab w 5 lenCells)(hm:S15.mode m=true)(he:D10.bq y n l=0)(hd0:1<=d)(hd:30<d):
  Calls Tryo.prog 134 #[.int .i64 y,.agg #[.int .i64 n,.bool l],.int .i64 d,.int .i64 m] w fun e w'=>e= .returned (.tuple #[.int .i64 0,.int .i64 4])/\Below w.heap.size w w':=by
 have HM:=Lib.hid (fun w=>(hm▸bF m w:Calls Tryo.prog 194 #[.int .i64 m] w fun e w'=>e= .returned (.bool true)/\w=w'))
 clear hm
 have hbd:=S15.mG he
 have HL:=Lib.hid (fun w hT hL=>dN y n l w hy hT hL)
 rw [he]at HL
 clear he
 generalize D10.aZ y n l=lv at*
 go_enter Tryo.func134,Tryz.ntmps134
 go_wp2_with fail
 refine(HM.out _).mono ?_
 rintro e w' ⟨rfl,rfl⟩
 go_wp2_with fail
 refine(HL.out _ (Tab.below hT ben) (Tab.below hL ben)).mono ?_
 rintro e w1 ⟨rfl,hb1⟩
 obtain⟨hc1,hf1⟩:=aA hb1
 have hz1:=hb1.size
 try simp at hz1
 have hs1x0:w.heap.size<w1.heap.size:=by omega
 have g1x0:w1.cell? ⟨w.heap.size,0,none⟩=some (.int .i64 n):=cel hc1
 have g1x1:w1.cell? ⟨w.heap.size,1,none⟩=some (.bool l):=cel hc1
 go_wp2_with fail
 go_ret2
 refine⟨rfl, ?_⟩
 exact ben
theorem J9(y n:Int)(l:Bool)(d m:Int)(w:World)(hy:I64 y)(hT:Tab w 7 kevCells)(hL:Tab w 5 lenCells)(hm:S15.mode m=true)(he:D10.bq y n l=0)(hd0:1<=d)(hd:d<=30)(hv:d<=D10.aZ y n l):
  Calls Tryo.prog 134 #[.int .i64 y,.agg #[.int .i64 n,.bool l],.int .i64 d,.int .i64 m] w fun e w'=>e= .returned (.tuple #[.int .i64 d,.int .i64 0])/\Below w.heap.size w w':=by
 have HM:=Lib.hid (fun w=>(hm▸bF m w:Calls Tryo.prog 194 #[.int .i64 m] w fun e w'=>e= .returned (.bool true)/\w=w'))
 clear hm
 have hbd:=S15.mG he
 have HL:=Lib.hid (fun w hT hL=>dN y n l w hy hT hL)
 rw [he]at HL
 clear he
 generalize D10.aZ y n l=lv at*
 go_enter Tryo.func134,Tryz.ntmps134
 go_wp2_with fail
 refine(HM.out _).mono ?_
 rintro e w' ⟨rfl,rfl⟩
 go_wp2_with fail
 refine(HL.out _ (Tab.below hT ben) (Tab.below hL ben)).mono ?_
 rintro e w1 ⟨rfl,hb1⟩
 obtain⟨hc1,hf1⟩:=aA hb1
 have hz1:=hb1.size
 try simp at hz1
 have hs1x0:w.heap.size<w1.heap.size:=by omega
 have g1x0:w1.cell? ⟨w.heap.size,0,none⟩=some (.int .i64 n):=cel hc1
 have g1x1:w1.cell? ⟨w.heap.size,1,none⟩=some (.bool l):=cel hc1
 go_wp2_with fail
 go_ret2
 refine⟨rfl, ?_⟩
 exact ben
theorem Ga(y n:Int)(l:Bool)(d m:Int)(w:World)(hy:I64 y)(hT:Tab w 7 kevCells)(hL:Tab w 5 lenCells)(hm:S15.mode m=true)(he:D10.bq y n l=0)(hd0:1<=d)(hd:d<=30)(hv:D10.aZ y n l<d)(h7:m=1):
  Calls Tryo.prog 134 #[.int .i64 y,.agg #[.int .i64 n,.bool l],.int .i64 d,.int .i64 m] w fun e w'=>e= .returned (.tuple #[.int .i64 0,.int .i64 7])/\Below w.heap.size w w':=by
 subst h7
 have HM:=Lib.hid (fun w=>(hm▸bF 1 w:Calls Tryo.prog 194 #[.int .i64 1] w fun e w'=>e= .returned (.bool true)/\w=w'))
 clear hm
 have hbd:=S15.mG he
 have HL:=Lib.hid (fun w hT hL=>dN y n l w hy hT hL)
 rw [he]at HL
 clear he
 generalize D10.aZ y n l=lv at*
 go_enter Tryo.func134,Tryz.ntmps134
 go_wp2_with fail
 refine(HM.out _).mono ?_
 rintro e w' ⟨rfl,rfl⟩
 go_wp2_with fail
 refine(HL.out _ (Tab.below hT ben) (Tab.below hL ben)).mono ?_
 rintro e w1 ⟨rfl,hb1⟩
 obtain⟨hc1,hf1⟩:=aA hb1
 have hz1:=hb1.size
 try simp at hz1
 have hs1x0:w.heap.size<w1.heap.size:=by omega
 have g1x0:w1.cell? ⟨w.heap.size,0,none⟩=some (.int .i64 n):=cel hc1
 have g1x1:w1.cell? ⟨w.heap.size,1,none⟩=some (.bool l):=cel hc1
 go_wp2_with fail
 go_ret2
 refine⟨rfl, ?_⟩
 exact ben
theorem yI(y n:Int)(l:Bool)(d m:Int)(w:World)(hy:I64 y)(hT:Tab w 7 kevCells)(hL:Tab w 5 lenCells)(hm:S15.mode m=true)(he:D10.bq y n l=0)(hd0:1<=d)(hd:d<=30)(hv:D10.aZ y n l<d)(h7:m=0):
  Calls Tryo.prog 134 #[.int .i64 y,.agg #[.int .i64 n,.bool l],.int .i64 d,.int .i64 m] w fun e w'=>e= .returned (.tuple #[.int .i64 (D10.aZ y n l),.int .i64 0])/\Below w.heap.size w w':=by
 subst h7
 have HM:=Lib.hid (fun w=>(hm▸bF 0 w:Calls Tryo.prog 194 #[.int .i64 0] w fun e w'=>e= .returned (.bool true)/\w=w'))
 clear hm
 have hbd:=S15.mG he
 have HL:=Lib.hid (fun w hT hL=>dN y n l w hy hT hL)
 rw [he]at HL
 clear he
 generalize D10.aZ y n l=lv at*
 go_enter Tryo.func134,Tryz.ntmps134
 go_wp2_with fail
 refine(HM.out _).mono ?_
 rintro e w' ⟨rfl,rfl⟩
 go_wp2_with fail
 refine(HL.out _ (Tab.below hT ben) (Tab.below hL ben)).mono ?_
 rintro e w1 ⟨rfl,hb1⟩
 obtain⟨hc1,hf1⟩:=aA hb1
 have hz1:=hb1.size
 try simp at hz1
 have hs1x0:w.heap.size<w1.heap.size:=by omega
 have g1x0:w1.cell? ⟨w.heap.size,0,none⟩=some (.int .i64 n):=cel hc1
 have g1x1:w1.cell? ⟨w.heap.size,1,none⟩=some (.bool l):=cel hc1
 go_wp2_with fail
 go_ret2
 refine⟨rfl, ?_⟩
 exact ben
theorem Qu(y n:Int)(l:Bool)(d m:Int)(w:World)(hy:I64 y)(hT:Tab w 7 kevCells)(hL:Tab w 5 lenCells):
  Calls Tryo.prog 134 #[.int .i64 y,.agg #[.int .i64 n,.bool l],.int .i64 d,.int .i64 m] w fun e w'=>e= .returned (.tuple #[.int .i64 (S15.Dh y n l d m),.int .i64 (S15.mI y n l d m)])/\Below w.heap.size w w':=by
 unfold S15.Dh
 cases hm:S15.mode m
 ·rw [show S15.mI y n l d m=1 by simp [S15.mI,hm]]
  exact EI y n l d m w hy hT hL hm
 by_cases he:D10.bq y n l=0
 ·by_cases c1:d<1∨30<d
  ·rw [show S15.mI y n l d m=4 by simp [S15.mI,hm,he,c1]]
   by_cases c:d<1
   ·exact Gi y n l d m w hy hT hL hm he c
   ·exact CO y n l d m w hy hT hL hm he (by omega) (by omega)
  ·by_cases c2:d<=D10.aZ y n l
   ·rw [show S15.mI y n l d m=0 by simp [S15.mI,hm,he,c1,c2],if_pos rfl,if_pos c2]
    exact J9 y n l d m w hy hT hL hm he (by omega) (by omega) c2
   ·by_cases c3:m=1
    ·rw [show S15.mI y n l d m=7 by subst c3;simp [S15.mI,hm,he,c1,c2]]
     exact Ga y n l d m w hy hT hL hm he (by omega) (by omega) (by omega) c3
    ·have c0:m=0:=by simp [S15.mode,c3]at hm;exact hm
     rw [show S15.mI y n l d m=0 by simp [S15.mI,hm,he,c1,c2,c3],if_pos rfl,if_neg c2]
     exact yI y n l d m w hy hT hL hm he (by omega) (by omega) (by omega) c0
 ·have e:S15.mI y n l d m=D10.bq y n l:=by simp [S15.mI,hm,he]
  rw [e,if_neg he]
  exact Em y n l d m w hy hT hL hm he
end
section
open Go.ChangeShapes Go.WideShapes Go.ChangeAt Go.RowKit Go.Sort
end
section
open Go.ChangeShapes Go.WideShapes Go.ChangeAt Go.RowKit Go.Sort
theorem zo(y n:Int)(l:Bool)(k:Int)(w:World)(hy:I64 y)(hT:Tab w 7 kevCells)(hL:Tab w 5 lenCells)(he:¬ D10.bq y n l=0):
  Calls Tryo.prog 133 #[.int .i64 y,.agg #[.int .i64 n,.bool l],.int .i64 k] w fun e w'=>e= .returned (.tuple #[.int .i64 0,.agg #[.int .i64 0,.bool false],.int .i64 (D10.bq y n l)])/\Below w.heap.size w w':=by
 have HL:=Lib.hid (fun w hT hL=>dN y n l w hy hT hL)
 generalize hle:D10.bq y n l=le at*
 generalize D10.aZ y n l=lv at*
 have he2:(le !=0)=true:=by simpa using he
 clear hle
 go_enter Tryo.func133,Tryz.ntmps133
 go_wp2_with fail
 refine aL (fun W=>aH W w.heap.size n l/\aH W (w.heap.size+1) 0 false/\Below w.heap.size w W) ⟨aH.below (bE _ _ _ _) (ba _ _),bC _ _ _ _ _,baa (ba _ _) _⟩ ?_
 rintro W0 ⟨hC0,hR0,hB0⟩
 have hq:=hC0
 obtain⟨c0,c1,cf,cs⟩:=hq
 have hq:=hR0
 obtain⟨r0,r1,rf,rs⟩:=hq
 refine(HL.out _ (Tab.below hT hB0) (Tab.below hL hB0)).mono ?_
 rintro e W1 ⟨rfl,hb1⟩
 have hC1:=aH.below hC0 hb1
 have hR1:=aH.below hR0 hb1
 have hB1:=bt hB0 hb1
 clear c0 c1 cf cs r0 r1 rf rs
 have hq:=hC1
 obtain⟨c0,c1,cf,cs⟩:=hq
 have hq:=hR1
 obtain⟨r0,r1,rf,rs⟩:=hq
 go_wp2_with fail
 refine bodyPost_ret (v:= .tuple #[.int .i64 0,.agg #[.int .i64 0,.bool false],.int .i64 le]) (by simp [results,Tryz.results133,go_sem, *]) rfl ⟨rfl, ?_⟩
 iterate 2 refine Below.setCell ?_ (by first|omega|(simp;done)) _
 exact hB1
theorem zL(y n:Int)(l:Bool)(k:Int)(w:World)(hy:I64 y)(hT:Tab w 7 kevCells)(hL:Tab w 5 lenCells)(he:D10.bq y n l=0)(hk:k< -4000000):
  Calls Tryo.prog 133 #[.int .i64 y,.agg #[.int .i64 n,.bool l],.int .i64 k] w fun e w'=>e= .returned (.tuple #[.int .i64 0,.agg #[.int .i64 0,.bool false],.int .i64 1])/\Below w.heap.size w w':=by
 have HL:=Lib.hid (fun w hT hL=>dN y n l w hy hT hL)
 rw [he]at HL
 obtain⟨h1,h2,hp⟩:=S15.nu he
 clear he
 generalize D10.aZ y n l=lv at*
 clear hp
 go_enter Tryo.func133,Tryz.ntmps133
 go_wp2_with fail
 refine aL (fun W=>aH W w.heap.size n l/\aH W (w.heap.size+1) 0 false/\Below w.heap.size w W) ⟨aH.below (bE _ _ _ _) (ba _ _),bC _ _ _ _ _,baa (ba _ _) _⟩ ?_
 rintro W0 ⟨hC0,hR0,hB0⟩
 have hq:=hC0
 obtain⟨c0,c1,cf,cs⟩:=hq
 have hq:=hR0
 obtain⟨r0,r1,rf,rs⟩:=hq
 refine(HL.out _ (Tab.below hT hB0) (Tab.below hL hB0)).mono ?_
 rintro e W1 ⟨rfl,hb1⟩
 have hC1:=aH.below hC0 hb1
 have hR1:=aH.below hR0 hb1
 have hB1:=bt hB0 hb1
 clear c0 c1 cf cs r0 r1 rf rs
 have hq:=hC1
 obtain⟨c0,c1,cf,cs⟩:=hq
 have hq:=hR1
 obtain⟨r0,r1,rf,rs⟩:=hq
 go_wp2_with fail
 refine bodyPost_ret (v:= .tuple #[.int .i64 0,.agg #[.int .i64 0,.bool false],.int .i64 1]) (by simp [results,Tryz.results133,go_sem, *]) rfl ⟨rfl, ?_⟩
 iterate 2 refine Below.setCell ?_ (by first|omega|(simp;done)) _
 exact hB1
theorem yC(y n:Int)(l:Bool)(k:Int)(w:World)(hy:I64 y)(hT:Tab w 7 kevCells)(hL:Tab w 5 lenCells)(he:D10.bq y n l=0)(hk0: -4000000<=k)(hk:4000000<k):
  Calls Tryo.prog 133 #[.int .i64 y,.agg #[.int .i64 n,.bool l],.int .i64 k] w fun e w'=>e= .returned (.tuple #[.int .i64 0,.agg #[.int .i64 0,.bool false],.int .i64 1])/\Below w.heap.size w w':=by
 have HL:=Lib.hid (fun w hT hL=>dN y n l w hy hT hL)
 rw [he]at HL
 obtain⟨h1,h2,hp⟩:=S15.nu he
 clear he
 generalize D10.aZ y n l=lv at*
 clear hp
 go_enter Tryo.func133,Tryz.ntmps133
 go_wp2_with fail
 refine aL (fun W=>aH W w.heap.size n l/\aH W (w.heap.size+1) 0 false/\Below w.heap.size w W) ⟨aH.below (bE _ _ _ _) (ba _ _),bC _ _ _ _ _,baa (ba _ _) _⟩ ?_
 rintro W0 ⟨hC0,hR0,hB0⟩
 have hq:=hC0
 obtain⟨c0,c1,cf,cs⟩:=hq
 have hq:=hR0
 obtain⟨r0,r1,rf,rs⟩:=hq
 refine(HL.out _ (Tab.below hT hB0) (Tab.below hL hB0)).mono ?_
 rintro e W1 ⟨rfl,hb1⟩
 have hC1:=aH.below hC0 hb1
 have hR1:=aH.below hR0 hb1
 have hB1:=bt hB0 hb1
 clear c0 c1 cf cs r0 r1 rf rs
 have hq:=hC1
 obtain⟨c0,c1,cf,cs⟩:=hq
 have hq:=hR1
 obtain⟨r0,r1,rf,rs⟩:=hq
 go_wp2_with fail
 refine bodyPost_ret (v:= .tuple #[.int .i64 0,.agg #[.int .i64 0,.bool false],.int .i64 1]) (by simp [results,Tryz.results133,go_sem, *]) rfl ⟨rfl, ?_⟩
 iterate 2 refine Below.setCell ?_ (by first|omega|(simp;done)) _
 exact hB1
theorem uw(y n:Int)(l:Bool)(k:Int)(w:World)(hy:I64 y)(hT:Tab w 7 kevCells)(hL:Tab w 5 lenCells)(he:D10.bq y n l=0)(hk0: -4000000<=k)(hk:k<=4000000)(hA:S15.dx y n l k<0):
  Calls Tryo.prog 133 #[.int .i64 y,.agg #[.int .i64 n,.bool l],.int .i64 k] w fun e w'=>e= .returned (.tuple #[.int .i64 0,.agg #[.int .i64 0,.bool false],.int .i64 2])/\Below w.heap.size w w':=by
 have HL:=Lib.hid (fun w hT hL=>dN y n l w hy hT hL)
 rw [he]at HL
 obtain⟨h1,h2,hp⟩:=S15.nu he
 clear he
 generalize D10.aZ y n l=lv at*
 have hpb:=S15.NS _ _ _ hp
 have hbb:=S15.jC y (by omega) (by omega)
 have HLp:=Lib.hid (fun w=>aT y w (by omega) (by omega))
 have HPl:=Lib.hid (fun w=>(hp▸bU (Cal.leap y) n l w:Calls Tryo.prog 191 #[.bool (Cal.leap y),.agg #[.int .i64 n,.bool l]] w fun e w'=>e= .returned (.tuple #[.int .i64 (Cal.plV (Cal.leap y) n l),.bool true])/\Below w.heap.size w w'))
 have HBy:=Lib.hid (fun w=>bT y w (by omega) (by omega))
 have HB1:=Lib.hid (fun w=>(S15.qc▸bT 1 w (by omega) (by omega):Calls Tryo.prog 195 #[.int .i64 1] w fun e w'=>e= .returned (.int .i64 0)/\w=w'))
 have HB2:=Lib.hid (fun w=>(S15.jT▸bT 10000 w (by omega) (by omega):Calls Tryo.prog 195 #[.int .i64 10000] w fun e w'=>e= .returned (.int .i64 123671)/\w=w'))
 clear hp
 unfold S15.dx at hA
 generalize Cal.plV (Cal.leap y) n l=pv at*
 generalize Cal.leap y=lp at*
 generalize Cal.before y=bf at*
 have g1:decide (bf+pv-1+k<0)=true:=by simpa using hA
 go_enter Tryo.func133,Tryz.ntmps133
 go_wp2_with fail
 refine aL (fun W=>aH W w.heap.size n l/\aH W (w.heap.size+1) 0 false/\Below w.heap.size w W) ⟨aH.below (bE _ _ _ _) (ba _ _),bC _ _ _ _ _,baa (ba _ _) _⟩ ?_
 rintro W0 ⟨hC0,hR0,hB0⟩
 have hq:=hC0
 obtain⟨c0,c1,cf,cs⟩:=hq
 have hq:=hR0
 obtain⟨r0,r1,rf,rs⟩:=hq
 refine(HL.out _ (Tab.below hT hB0) (Tab.below hL hB0)).mono ?_
 rintro e W1 ⟨rfl,hb1⟩
 have hC1:=aH.below hC0 hb1
 have hR1:=aH.below hR0 hb1
 have hB1:=bt hB0 hb1
 clear c0 c1 cf cs r0 r1 rf rs
 have hq:=hC1
 obtain⟨c0,c1,cf,cs⟩:=hq
 have hq:=hR1
 obtain⟨r0,r1,rf,rs⟩:=hq
 go_wp2_with fail
 refine(HLp.out _).mono ?_
 rintro e w' ⟨rfl,rfl⟩
 go_wp2_with fail
 refine(HPl.out _).mono ?_
 rintro e W2 ⟨rfl,hb2⟩
 have hC2:=aH.below hC1 hb2
 have hR2:=aH.below hR1 hb2
 have hB2:=bt hB1 hb2
 clear c0 c1 cf cs r0 r1 rf rs
 have hq:=hC2
 obtain⟨c0,c1,cf,cs⟩:=hq
 have hq:=hR2
 obtain⟨r0,r1,rf,rs⟩:=hq
 go_wp2_with fail
 refine(HBy.out _).mono ?_
 rintro e w' ⟨rfl,rfl⟩
 go_wp2_with fail
 refine settle (fun W=>W.cell? ⟨W2.heap.size,0,none⟩=some (.int .i64 (bf+pv-1+k))/\W2.heap.size<W.heap.size/\aH W (w.heap.size+1) 0 false/\Below w.heap.size w W) ⟨by simp [go_sem],by simp,aH.below hR2 (ba _ _),baa hB2 _⟩ ?_
 rintro W3 ⟨a0,az,hR3,hB3⟩
 refine bI (by kernel_rfl) (by kernel_rfl) (fun hall=> ?_)
 repeat(first|go_big_quiet_skip|(go_big_quiet_want;first|(refine ql1 _ _ _ rfl rfl ?_;apply Exists.intro;refine⟨?_, ?_⟩;assumption;go_simp;go_big_quiet_on)|(refine ql2 _ _ _ _ rfl rfl ?_;apply Exists.intro;apply Exists.intro;refine⟨?_, ?_, ?_⟩;assumption;assumption;go_simp;go_big_quiet_on)|(refine ql3 _ _ _ _ rfl rfl ?_;apply Exists.intro;apply Exists.intro;apply Exists.intro;refine⟨?_, ?_, ?_, ?_⟩;assumption;assumption;assumption;go_simp;go_big_quiet_on)|(refine ql4 _ _ _ _ rfl rfl ?_;apply Exists.intro;apply Exists.intro;apply Exists.intro;apply Exists.intro;refine⟨?_, ?_, ?_, ?_, ?_⟩;assumption;assumption;assumption;assumption;go_simp;go_big_quiet_on)|(go_big_quiet_op;first|go_big_quiet_on|(apply Exists.intro;refine⟨fun x hx=> ?_, ?_⟩;(first|(with_reducible exact dZ hx (HB1.out x))|(with_reducible exact dZ hx (HB2.out x))|exact dZ hx (HB1.out x)|exact dZ hx (HB2.out x));go_big_quiet_on))))
 refine wpQuiet_nil ?_
 clear hall
 intro x4 hx4
 have a1:=(hx4.cell (p:=⟨W2.heap.size,0,none⟩) az).trans a0
 have az4:=Nat.lt_of_lt_of_le az hx4.size
 have hR4:=aH.below hR3 hx4
 have hB4:=bt hB3 hx4
 clear a0 az c0 c1 cf cs r0 r1 rf rs
 have hq:=hR4
 obtain⟨r0,r1,rf,rs⟩:=hq
 go_wp2_with fail
 refine bodyPost_ret (v:= .tuple #[.int .i64 0,.agg #[.int .i64 0,.bool false],.int .i64 2]) (by simp [results,Tryz.results133,go_sem, *]) rfl ⟨rfl, ?_⟩
 iterate 2 refine Below.setCell ?_ (by first|omega|(simp;done)) _
 exact hB4
theorem um(y n:Int)(l:Bool)(k:Int)(w:World)(hy:I64 y)(hT:Tab w 7 kevCells)(hL:Tab w 5 lenCells)(he:D10.bq y n l=0)(hk0: -4000000<=k)(hk:k<=4000000)(hA0:0<=S15.dx y n l k)(hA:123671<=S15.dx y n l k):
  Calls Tryo.prog 133 #[.int .i64 y,.agg #[.int .i64 n,.bool l],.int .i64 k] w fun e w'=>e= .returned (.tuple #[.int .i64 0,.agg #[.int .i64 0,.bool false],.int .i64 2])/\Below w.heap.size w w':=by
 have HL:=Lib.hid (fun w hT hL=>dN y n l w hy hT hL)
 rw [he]at HL
 obtain⟨h1,h2,hp⟩:=S15.nu he
 clear he
 generalize D10.aZ y n l=lv at*
 have hpb:=S15.NS _ _ _ hp
 have hbb:=S15.jC y (by omega) (by omega)
 have HLp:=Lib.hid (fun w=>aT y w (by omega) (by omega))
 have HPl:=Lib.hid (fun w=>(hp▸bU (Cal.leap y) n l w:Calls Tryo.prog 191 #[.bool (Cal.leap y),.agg #[.int .i64 n,.bool l]] w fun e w'=>e= .returned (.tuple #[.int .i64 (Cal.plV (Cal.leap y) n l),.bool true])/\Below w.heap.size w w'))
 have HBy:=Lib.hid (fun w=>bT y w (by omega) (by omega))
 have HB1:=Lib.hid (fun w=>(S15.qc▸bT 1 w (by omega) (by omega):Calls Tryo.prog 195 #[.int .i64 1] w fun e w'=>e= .returned (.int .i64 0)/\w=w'))
 have HB2:=Lib.hid (fun w=>(S15.jT▸bT 10000 w (by omega) (by omega):Calls Tryo.prog 195 #[.int .i64 10000] w fun e w'=>e= .returned (.int .i64 123671)/\w=w'))
 clear hp
 unfold S15.dx at hA hA0
 generalize Cal.plV (Cal.leap y) n l=pv at*
 generalize Cal.leap y=lp at*
 generalize Cal.before y=bf at*
 have g1:decide (bf+pv-1+k<0)=false:=by simp;omega
 have g2:decide (123671<=bf+pv-1+k)=true:=by simpa using hA
 go_enter Tryo.func133,Tryz.ntmps133
 go_wp2_with fail
 refine aL (fun W=>aH W w.heap.size n l/\aH W (w.heap.size+1) 0 false/\Below w.heap.size w W) ⟨aH.below (bE _ _ _ _) (ba _ _),bC _ _ _ _ _,baa (ba _ _) _⟩ ?_
 rintro W0 ⟨hC0,hR0,hB0⟩
 have hq:=hC0
 obtain⟨c0,c1,cf,cs⟩:=hq
 have hq:=hR0
 obtain⟨r0,r1,rf,rs⟩:=hq
 refine(HL.out _ (Tab.below hT hB0) (Tab.below hL hB0)).mono ?_
 rintro e W1 ⟨rfl,hb1⟩
 have hC1:=aH.below hC0 hb1
 have hR1:=aH.below hR0 hb1
 have hB1:=bt hB0 hb1
 clear c0 c1 cf cs r0 r1 rf rs
 have hq:=hC1
 obtain⟨c0,c1,cf,cs⟩:=hq
 have hq:=hR1
 obtain⟨r0,r1,rf,rs⟩:=hq
 go_wp2_with fail
 refine(HLp.out _).mono ?_
 rintro e w' ⟨rfl,rfl⟩
 go_wp2_with fail
 refine(HPl.out _).mono ?_
 rintro e W2 ⟨rfl,hb2⟩
 have hC2:=aH.below hC1 hb2
 have hR2:=aH.below hR1 hb2
 have hB2:=bt hB1 hb2
 clear c0 c1 cf cs r0 r1 rf rs
 have hq:=hC2
 obtain⟨c0,c1,cf,cs⟩:=hq
 have hq:=hR2
 obtain⟨r0,r1,rf,rs⟩:=hq
 go_wp2_with fail
 refine(HBy.out _).mono ?_
 rintro e w' ⟨rfl,rfl⟩
 go_wp2_with fail
 refine settle (fun W=>W.cell? ⟨W2.heap.size,0,none⟩=some (.int .i64 (bf+pv-1+k))/\W2.heap.size<W.heap.size/\aH W (w.heap.size+1) 0 false/\Below w.heap.size w W) ⟨by simp [go_sem],by simp,aH.below hR2 (ba _ _),baa hB2 _⟩ ?_
 rintro W3 ⟨a0,az,hR3,hB3⟩
 refine bI (by kernel_rfl) (by kernel_rfl) (fun hall=> ?_)
 repeat(first|go_big_quiet_skip|(go_big_quiet_want;first|(refine ql1 _ _ _ rfl rfl ?_;apply Exists.intro;refine⟨?_, ?_⟩;assumption;go_simp;go_big_quiet_on)|(refine ql2 _ _ _ _ rfl rfl ?_;apply Exists.intro;apply Exists.intro;refine⟨?_, ?_, ?_⟩;assumption;assumption;go_simp;go_big_quiet_on)|(refine ql3 _ _ _ _ rfl rfl ?_;apply Exists.intro;apply Exists.intro;apply Exists.intro;refine⟨?_, ?_, ?_, ?_⟩;assumption;assumption;assumption;go_simp;go_big_quiet_on)|(refine ql4 _ _ _ _ rfl rfl ?_;apply Exists.intro;apply Exists.intro;apply Exists.intro;apply Exists.intro;refine⟨?_, ?_, ?_, ?_, ?_⟩;assumption;assumption;assumption;assumption;go_simp;go_big_quiet_on)|(go_big_quiet_op;first|go_big_quiet_on|(apply Exists.intro;refine⟨fun x hx=> ?_, ?_⟩;(first|(with_reducible exact dZ hx (HB1.out x))|(with_reducible exact dZ hx (HB2.out x))|exact dZ hx (HB1.out x)|exact dZ hx (HB2.out x));go_big_quiet_on))))
 refine wpQuiet_nil ?_
 clear hall
 intro x4 hx4
 have a1:=(hx4.cell (p:=⟨W2.heap.size,0,none⟩) az).trans a0
 have az4:=Nat.lt_of_lt_of_le az hx4.size
 have hR4:=aH.below hR3 hx4
 have hB4:=bt hB3 hx4
 clear a0 az c0 c1 cf cs r0 r1 rf rs
 have hq:=hR4
 obtain⟨r0,r1,rf,rs⟩:=hq
 go_wp2_with fail
 refine bodyPost_ret (v:= .tuple #[.int .i64 0,.agg #[.int .i64 0,.bool false],.int .i64 2]) (by simp [results,Tryz.results133,go_sem, *]) rfl ⟨rfl, ?_⟩
 iterate 2 refine Below.setCell ?_ (by first|omega|(simp;done)) _
 exact hB4
theorem Fp(y:Int)(w:World)(h0:0<=y)(h1:y<=10001):Calls Tryo.prog 195 #[.int .i64 y] w fun e w'=>e= .returned (.int .i64 (Cal.before y))/\w'=w:=(bT y w h0 h1).mono fun _ _ h=>⟨h.1,h.2.symm⟩
theorem Fu(d i:Int)(B:Nat)(w:World)(hc:w.cell? ⟨B,0,none⟩=some (.int .i64 d))(h0:0<=i)(h1:i<9998):
  Calls Tryo.prog 196 #[.int .i64 i,.pointer (some ⟨B,0,none⟩)] w fun e w'=>e= .returned (.bool (decide (d<Cal.before (i+2))))/\∃q,w'=w.drewN q:=by
 have H:=Lib.hid (fun w=>Fp (i+2) w (by omega) (by omega))
 have e1:IntKind.i64.wrap (1+i)=1+i:=IntWalk.i64_in _ (by omega)
 have e2:IntKind.i64.wrap (1+i+1)=i+2:=by rw [show 1+i+1=i+2 by omega];exact IntWalk.i64_in _ (by omega)
 go_enter Tryo.func196,Tryz.ntmps196
 go_wp2_with fail
 clear h0 h1
 go_quiet ((go_at_call 195;exact Calls.quiet_of_same (H.out _)))
 go_wp2_with fail
 go_ret
 exact⟨rfl,_,rfl⟩
theorem Ca(y n:Int)(l:Bool)(k:Int)(w:World)(hy:I64 y)(hT:Tab w 7 kevCells)(hL:Tab w 5 lenCells)(he:D10.bq y n l=0)(hk0: -4000000<=k)(hk:k<=4000000)(hA0:0<=S15.dx y n l k)(hA1:S15.dx y n l k<123671):
  Calls Tryo.prog 133 #[.int .i64 y,.agg #[.int .i64 n,.bool l],.int .i64 k] w fun e w'=>e= .returned (.tuple #[.int .i64 (S15.mY (S15.dx y n l k)),.agg #[.int .i64 (Cal.ofN (Cal.leap (S15.mY (S15.dx y n l k))) (S15.mM (S15.dx y n l k))),.bool (Cal.ofL (Cal.leap (S15.mY (S15.dx y n l k))) (S15.mM (S15.dx y n l k)))],.int .i64 0])/\Below w.heap.size w w':=by
 have HL:=Lib.hid (fun w hT hL=>dN y n l w hy hT hL)
 rw [he]at HL
 obtain⟨h1,h2,hp⟩:=S15.nu he
 clear he
 generalize D10.aZ y n l=lv at*
 have hpb:=S15.NS _ _ _ hp
 have hbb:=S15.jC y (by omega) (by omega)
 have HLp:=Lib.hid (fun w=>aT y w (by omega) (by omega))
 have HPl:=Lib.hid (fun w=>(hp▸bU (Cal.leap y) n l w:Calls Tryo.prog 191 #[.bool (Cal.leap y),.agg #[.int .i64 n,.bool l]] w fun e w'=>e= .returned (.tuple #[.int .i64 (Cal.plV (Cal.leap y) n l),.bool true])/\Below w.heap.size w w'))
 have HBy:=Lib.hid (fun w=>bT y w (by omega) (by omega))
 have HB1:=Lib.hid (fun w=>(S15.qc▸bT 1 w (by omega) (by omega):Calls Tryo.prog 195 #[.int .i64 1] w fun e w'=>e= .returned (.int .i64 0)/\w=w'))
 have HB2:=Lib.hid (fun w=>(S15.jT▸bT 10000 w (by omega) (by omega):Calls Tryo.prog 195 #[.int .i64 10000] w fun e w'=>e= .returned (.int .i64 123671)/\w=w'))
 clear hp
 unfold S15.dx at*
 generalize Cal.plV (Cal.leap y) n l=pv at*
 generalize Cal.leap y=lp at*
 generalize Cal.before y=bf at*
 obtain⟨t1,t2⟩:=S15.O8 _ hA0 hA1
 have tm:=S15.O3 (bf+pv-1+k)
 have tc:=S15.RQ _ hA0 hA1
 have g1:decide (bf+pv-1+k<0)=false:=by simp;omega
 have g2:decide (123671<=bf+pv-1+k)=false:=by simp;omega
 have HBm:=Lib.hid (fun w=>bT (S15.mY (bf+pv-1+k)) w (by omega) (by omega))
 have HLm:=Lib.hid (fun w=>aT (S15.mY (bf+pv-1+k)) w (by omega) (by omega))
 have hmM:S15.mM (bf+pv-1+k)=bf+pv-1+k-Cal.before (S15.mY (bf+pv-1+k))+1:=rfl
 have hbm:=S15.jC (S15.mY (bf+pv-1+k)) (by omega) (by omega)
 have tmb:S15.mM (bf+pv-1+k)<=13:=by have:=tm.2;unfold Cal.most at this;split at this <;> omega
 have HOf:=Lib.hid (fun w=>qJ (Cal.leap (S15.mY (bf+pv-1+k))) (S15.mM (bf+pv-1+k)) w (by omega))
 have HQ:∀ (B:Nat) (W:World),W.cell? ⟨B,0,none⟩=some (.int .i64 (bf+pv-1+k))->B<W.heap.size->Calls Tryo.prog 145 #[.int .i64 9998,.func (.func 196) #[] #[.pointer (some ⟨B,0,none⟩)]] W fun e w'=>e= .returned (.int .i64 (S15.mY (bf+pv-1+k)-1))/\Below W.heap.size W w':=by
  intro B W hW hs
  have hh:=Any.sort_Search search 196 #[.pointer (some ⟨B,0,none⟩)] 9998 (fun i=>decide (bf+pv-1+k<Cal.before ((i:Int)+2))) W (enters_of Tryo.func196 (by kernel_rfl) rfl) (by omega)
   (fun m os i hi=>(Fu (bf+pv-1+k) i B _ (cell_grown hs hW m os) (by omega) (by omega)).mono fun e w' h=>⟨h.1,by obtain⟨q,hq⟩:=h.2;exact⟨q,#[],by rw [hq,grow_empty]⟩⟩)
   (fun a b hab hb hp=>by
    have hp':=of_decide_eq_true hp
    have:=S15.fV ((a:Int)+2) ((b:Int)+2) (by omega)
    exact decide_eq_true (by omega))
  rw [tc]at hh
  exact hh.mono fun e w' h=>⟨h.1,by obtain⟨q,os,rfl⟩:=h.2;exact below_grown_sl _ W q os (Nat.le_refl _)⟩
 have HR:=Lib.hid HQ
 clear HQ tc tm
 generalize hAe:bf+pv-1+k=A at*
 generalize Cal.ofN (Cal.leap (S15.mY A)) (S15.mM A)=rn at*
 generalize Cal.ofL (Cal.leap (S15.mY A)) (S15.mM A)=rl at*
 generalize Cal.jZ (Cal.leap (S15.mY A)) (S15.mM A)=ro at*
 generalize S15.mM A=mm at*
 generalize Cal.leap (S15.mY A)=lp2 at*
 generalize Cal.before (S15.mY A)=bm at*
 generalize S15.mY A=ry at*
 have hAh:=Lib.hid hAe
 have hmh:=Lib.hid hmM
 clear hAe hmM
 go_enter Tryo.func133,Tryz.ntmps133
 go_wp2_with fail
 refine aL (fun W=>aH W w.heap.size n l/\aH W (w.heap.size+1) 0 false/\Below w.heap.size w W) ⟨aH.below (bE _ _ _ _) (ba _ _),bC _ _ _ _ _,baa (ba _ _) _⟩ ?_
 rintro W0 ⟨hC0,hR0,hB0⟩
 have hq:=hC0
 obtain⟨c0,c1,cf,cs⟩:=hq
 have hq:=hR0
 obtain⟨r0,r1,rf,rs⟩:=hq
 refine(HL.out _ (Tab.below hT hB0) (Tab.below hL hB0)).mono ?_
 rintro e W1 ⟨rfl,hb1⟩
 have hC1:=aH.below hC0 hb1
 have hR1:=aH.below hR0 hb1
 have hB1:=bt hB0 hb1
 clear c0 c1 cf cs r0 r1 rf rs
 have hq:=hC1
 obtain⟨c0,c1,cf,cs⟩:=hq
 have hq:=hR1
 obtain⟨r0,r1,rf,rs⟩:=hq
 go_wp2_with fail
 refine(HLp.out _).mono ?_
 rintro e w' ⟨rfl,rfl⟩
 go_wp2_with fail
 refine(HPl.out _).mono ?_
 rintro e W2 ⟨rfl,hb2⟩
 have hC2:=aH.below hC1 hb2
 have hR2:=aH.below hR1 hb2
 have hB2:=bt hB1 hb2
 clear c0 c1 cf cs r0 r1 rf rs
 have hq:=hC2
 obtain⟨c0,c1,cf,cs⟩:=hq
 have hq:=hR2
 obtain⟨r0,r1,rf,rs⟩:=hq
 go_wp2_with fail
 refine(HBy.out _).mono ?_
 rintro e w' ⟨rfl,rfl⟩
 go_wp2_with fail
 refine settle (fun W=>W.cell? ⟨W2.heap.size,0,none⟩=some (.int .i64 (A))/\W2.heap.size<W.heap.size/\aH W (w.heap.size+1) 0 false/\Below w.heap.size w W) ⟨by rw [←hAh.out];simp [go_sem],by simp,aH.below hR2 (ba _ _),baa hB2 _⟩ ?_
 rintro W3 ⟨a0,az,hR3,hB3⟩
 refine bI (by kernel_rfl) (by kernel_rfl) (fun hall=> ?_)
 repeat(first|go_big_quiet_skip|(go_big_quiet_want;first|(refine ql1 _ _ _ rfl rfl ?_;apply Exists.intro;refine⟨?_, ?_⟩;assumption;go_simp;go_big_quiet_on)|(refine ql2 _ _ _ _ rfl rfl ?_;apply Exists.intro;apply Exists.intro;refine⟨?_, ?_, ?_⟩;assumption;assumption;go_simp;go_big_quiet_on)|(refine ql3 _ _ _ _ rfl rfl ?_;apply Exists.intro;apply Exists.intro;apply Exists.intro;refine⟨?_, ?_, ?_, ?_⟩;assumption;assumption;assumption;go_simp;go_big_quiet_on)|(refine ql4 _ _ _ _ rfl rfl ?_;apply Exists.intro;apply Exists.intro;apply Exists.intro;apply Exists.intro;refine⟨?_, ?_, ?_, ?_, ?_⟩;assumption;assumption;assumption;assumption;go_simp;go_big_quiet_on)|(go_big_quiet_op;first|go_big_quiet_on|(apply Exists.intro;refine⟨fun x hx=> ?_, ?_⟩;(first|(with_reducible exact dZ hx (HB1.out x))|(with_reducible exact dZ hx (HB2.out x))|exact dZ hx (HB1.out x)|exact dZ hx (HB2.out x));go_big_quiet_on))))
 refine wpQuiet_nil ?_
 clear hall
 intro x4 hx4
 have a1:=(hx4.cell (p:=⟨W2.heap.size,0,none⟩) az).trans a0
 have az4:=Nat.lt_of_lt_of_le az hx4.size
 have hR4:=aH.below hR3 hx4
 have hB4:=bt hB3 hx4
 clear a0 az c0 c1 cf cs r0 r1 rf rs
 have hq:=hR4
 obtain⟨r0,r1,rf,rs⟩:=hq
 go_wp2_with fail
 refine(HR.out _ _ a1 az4).mono ?_
 rintro e W5 ⟨rfl,hb5⟩
 have a2:=(hb5.cell (p:=⟨W2.heap.size,0,none⟩) az4).trans a1
 have az5:=Nat.lt_of_lt_of_le az4 hb5.size
 have hR5:=aH.below hR4 hb5
 have hB5:=bt hB4 hb5
 clear a1 az4 r0 r1 rf rs
 have hq:=hR5
 obtain⟨r0,r1,rf,rs⟩:=hq
 have ey:1+(ry-1)=ry:=by omega
 go_wp2_with fail
 refine(HLm.out _).mono ?_
 rintro e w' ⟨rfl,rfl⟩
 go_wp2_with fail
 have w1:IntKind.i64.wrap (A-bm)=A-bm:=IntWalk.i64_in _ (by omega)
 have w2:IntKind.i64.wrap (A-bm+1)=mm:=by rw [hmh.out];exact IntWalk.i64_in _ (by have:=hmh.out;omega)
 clear ey
 go_region_with (first|(go_at_call 195;refine(HBm.out _).mono ?_;rintro e w6 ⟨rfl,rfl⟩)|(go_at_call 73;refine(HOf.out _).mono ?_;rintro e W7 ⟨rfl,hb7⟩;have hW7:=bt (show Below W5.heap.size W5 _ by repeat(first|(with_reducible exact Below.refl _ _)|(with_reducible refine aD ?_)|(with_reducible refine baa ?_ _))) hb7;have hR7:=aH.below hR5 hW7;have hB7:=bt hB5 hW7;obtain⟨hc7,hf7⟩:=aA hb7;have hz7:=hb7.size;have hq:=hR7;obtain⟨z0,z1,zf,zs⟩:=hq;try simp at hz7))
 all_goals go_wp2_with fail
 all_goals go_region
 all_goals go_wp2_with fail
 all_goals refine bodyPost_ret (v:= .tuple #[.int .i64 ry,.agg #[.int .i64 rn,.bool rl],.int .i64 0]) (by simp [results,Tryz.results133,go_sem, *]) rfl ⟨rfl, ?_⟩
 all_goals(repeat(first|(with_reducible exact Below.refl _ _)|(with_reducible assumption)|(with_reducible refine aD ?_)|(with_reducible refine baa ?_ _)|(with_reducible refine bs ?_ (by first|exact Nat.le_refl _|omega|(simp;done)|(simp;omega)) _)))
end
section
open Go.ChangeShapes Go.WideShapes Go.ChangeAt Go.RowKit Go.Sort
namespace S15
end S15
theorem Jc(y n:Int)(l:Bool)(k:Int)(w:World)(hy:I64 y)(hT:Tab w 7 kevCells)(hL:Tab w 5 lenCells):
  Calls Tryo.prog 133 #[.int .i64 y,.agg #[.int .i64 n,.bool l],.int .i64 k] w fun e w'=>e= .returned (.tuple #[.int .i64 (S15.pG y n l k),.agg #[.int .i64 (S15.uR y n l k),.bool (S15.u6 y n l k)],.int .i64 (S15.monE y n l k)])/\Below w.heap.size w w':=by
 unfold S15.pG S15.uR S15.u6
 by_cases he:D10.bq y n l=0
 ·by_cases c1:k< -4000000∨4000000<k
  ·rw [show S15.monE y n l k=1 by simp [S15.monE,he,c1]]
   by_cases c:k< -4000000
   ·exact zL y n l k w hy hT hL he c
   ·exact yC y n l k w hy hT hL he (by omega) (by omega)
  ·by_cases c2:S15.dx y n l k<0∨123671<=S15.dx y n l k
   ·rw [show S15.monE y n l k=2 by simp [S15.monE,he,c1,c2]]
    by_cases c:S15.dx y n l k<0
    ·exact uw y n l k w hy hT hL he (by omega) (by omega) c
    ·exact um y n l k w hy hT hL he (by omega) (by omega) (by omega) (by omega)
   ·rw [show S15.monE y n l k=0 by simp [S15.monE,he,c1,c2],if_pos rfl,if_pos rfl,if_pos rfl]
    exact Ca y n l k w hy hT hL he (by omega) (by omega) (by omega) (by omega)
 ·have e:S15.monE y n l k=D10.bq y n l:=by simp [S15.monE,he]
  rw [e,if_neg he,if_neg he,if_neg he]
  exact zo y n l k w hy hT hL he
end
section
open Go.ChangeShapes Go.WideShapes Go.ChangeAt Go.RowKit
namespace S15
theorem Ey:∀lp:Bool,Cal.ofN lp 1=1/\Cal.ofL lp 1=false:=by decide
theorem E9:∀lp:Bool,Cal.ofN lp (Cal.most lp)=12:=by decide
theorem Ai{y n:Int}{l:Bool}(h1:1<=y)(h2:y<=9999)(hp:Cal.dJ (Cal.leap y) n l=true):D10.bq y n l=0:=by simp [D10.bq,Cal.dD y h1 h2,hp]
theorem Wl{y n k:Int}{l:Bool}(h:monE y n l k=0):D10.bq y n l=0/\ -4000000<=k/\k<=4000000/\0<=dx y n l k/\dx y n l k<123671:=by
 unfold monE at h
 split at h
 ·rename_i he
  split at h
  ·omega
  ·split at h
   ·omega
   ·exact⟨he,by omega,by omega,by omega,by omega⟩
 ·rename_i he;exact absurd h he
theorem Vz{y n k:Int}{l:Bool}(he:D10.bq y n l=0)(h1: -4000000<=k)(h2:k<=4000000)(h3:0<=dx y n l k)(h4:dx y n l k<123671):monE y n l k=0:=by
 unfold monE;rw [if_pos he,if_neg (by omega),if_neg (by omega)]
theorem Au{y n k:Int}{l:Bool}(h:monE y n l k=0):D10.bq (pG y n l k) (uR y n l k) (u6 y n l k)=0/\1<=pG y n l k/\pG y n l k<=9999/\∀b,dx (pG y n l k) (uR y n l k) (u6 y n l k) b=dx y n l (k+b):=by
 obtain⟨he,k1,k2,a1,a2⟩:=Wl h
 obtain⟨y1,y2⟩:=O8 _ a1 a2
 obtain⟨m1,m2⟩:=O3 (dx y n l k)
 obtain⟨_,p1,p2⟩:=D10.p8 _ _ m1 m2
 have e1:pG y n l k=mY (dx y n l k):=by unfold pG;rw [if_pos h]
 have e2:uR y n l k=Cal.ofN (Cal.leap (mY (dx y n l k))) (mM (dx y n l k)):=by unfold uR;rw [if_pos h]
 have e3:u6 y n l k=Cal.ofL (Cal.leap (mY (dx y n l k))) (mM (dx y n l k)):=by unfold u6;rw [if_pos h]
 rw [e1,e2,e3]
 refine⟨Ai y1 y2 p1,y1,y2,fun b=> ?_⟩
 have:dx y n l (k+b)=dx y n l k+b:=by unfold dx;omega
 rw [this]
 generalize dx y n l k=A at*
 unfold dx
 rw [p2]
 unfold mM;omega
theorem Tj{y n k:Int}{l:Bool}(he:D10.bq y n l=0)(k1: -4000000<=k)(k2:k<=4000000)(m z:Int)(z1:1<=z)(z2:z<=9999)(m1:1<=m)(m2:m<=Cal.most (Cal.leap z))(e:dx y n l k=Cal.before z+m-1):
  monE y n l k=0/\pG y n l k=z/\uR y n l k=Cal.ofN (Cal.leap z) m/\u6 y n l k=Cal.ofL (Cal.leap z) m:=by
 have hn:=qQ z
 have a1:=fV 1 z z1
 have a2:=fV (z+1) 10000 (by omega)
 rw [qc]at a1
 rw [jT]at a2
 have h:=Vz he k1 k2 (by omega) (by omega)
 have hy:mY (dx y n l k)=z:=Wm _ _ (by omega) (by omega)
 have hm:mM (dx y n l k)=m:=by unfold mM;rw [hy];omega
 exact⟨h,by unfold pG;rw [if_pos h,hy],by unfold uR;rw [if_pos h,hy,hm],by unfold u6;rw [if_pos h,hy,hm]⟩
theorem Sl{y n:Int}{l:Bool}(he:D10.bq y n l=0):monE y n l 0=0/\pG y n l 0=y/\uR y n l 0=n/\u6 y n l 0=l:=by
 obtain⟨h1,h2,hp⟩:=nu he
 obtain⟨p1,p2,p3,p4⟩:=D10.jM _ _ _ hp
 have:=Tj he (k:=0) (by omega) (by omega) _ y h1 h2 p1 p2 (by unfold dx;omega)
 rwa [p3,p4]at this
end S15
end
end Go.Proofs.YthnjjcoahdhmnaaGreatDoor
