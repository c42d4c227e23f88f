import Derived.Test.YthnjjcoahdhmnaaGreatDoorJHR
import Derived.Test.YthnjjcoahdhmnaaGreatDoorJLC
import Derived.Deep.QuietTactic
import Derived.BigQuiet
import Derived.LoopTactic
import Derived.RegionTactic
import Derived.BigRegion
import Derived.Deep.RegionWith
set_option maxHeartbeats 8000000
set_option maxRecDepth 100000
set_option linter.unusedVariables false
section
namespace Go.Proofs.YthnjjcoahdhmnaaGreatDoor
open Go.ChangeShapes Go.WideShapes Go.ChangeAt Go.RowKit Go.Sort
namespace S15
def mode(m:Int):Bool:=decide (m=0)||decide (m=1)
def intoE(y n:Int)(l:Bool)(m:Int):Int:=if mode m then(if Cal.yearIn y then(if Cal.right n l then(if Cal.plOk (Cal.leap y) n l then 0 else if m=1 then 7 else 0)else 3)else 2)else 1
def intoN(y n:Int)(l:Bool)(m:Int):Int:=if intoE y n l m=0 then(if Cal.plOk (Cal.leap y) n l then n else 6)else 0
def intoL(y n:Int)(l:Bool)(m:Int):Bool:=if intoE y n l m=0 then(if Cal.plOk (Cal.leap y) n l then l else false)else false
def mY(a:Int):Int:=(19*a+252) / 235
def mM(a:Int):Int:=a-Cal.before (mY a)+1
def monA(y n:Int)(l:Bool)(k:Int):Int:=Cal.before y+Cal.plV (Cal.leap y) n l-1+k
def monE(y n:Int)(l:Bool)(k:Int):Int:=if D10.lastE y n l=0 then(if k< -4000000∨4000000<k then 1 else if monA y n l k<0∨123671<=monA y n l k then 2 else 0)else D10.lastE y n l
def monY(y n:Int)(l:Bool)(k:Int):Int:=if monE y n l k=0 then mY (monA y n l k)else 0
def monN(y n:Int)(l:Bool)(k:Int):Int:=if monE y n l k=0 then Cal.ofN (Cal.leap (mY (monA y n l k))) (mM (monA y n l k))else 0
def monL(y n:Int)(l:Bool)(k:Int):Bool:=if monE y n l k=0 then Cal.ofL (Cal.leap (mY (monA y n l k))) (mM (monA y n l k))else false
def fitE(y n:Int)(l:Bool)(d m:Int):Int:=if mode m then(if D10.lastE y n l=0 then(if d<1∨30<d then 4 else if d<=D10.lastV y n l then 0 else if m=1 then 7 else 0)else D10.lastE y n l)else 1
def fitV(y n:Int)(l:Bool)(d m:Int):Int:=if fitE y n l d m=0 then(if d<=D10.lastV y n l then d else D10.lastV y n l)else 0
theorem mY_spec(a:Int):Cal.before (mY a)<=a/\a<Cal.before (mY a+1):=by unfold mY Cal.before;omega
theorem before_mono(a b:Int)(h:a<=b):Cal.before a<=Cal.before b:=by unfold Cal.before;omega
theorem mY_one(a y:Int)(h1:Cal.before y<=a)(h2:a<Cal.before (y+1)):mY a=y:=by unfold Cal.before at h1 h2;unfold mY;omega
theorem before_next(y:Int):Cal.before (y+1)=Cal.before y+Cal.most (Cal.leap y):=by
 obtain⟨q,r,e,r0,r1⟩:∃q r:Int,y=19*q+r/\0<=r/\r<19:=⟨y / 19,y % 19,by omega,by omega,by omega⟩
 subst e
 unfold Cal.before Cal.most Cal.leap
 rw [show(7*(19*q+r)+1) % 19=(7*r+1) % 19 by omega,show(235*(19*q+r+1)-234) / 19=235*q+(235*r+1) / 19 by omega,show(235*(19*q+r)-234) / 19=235*q+(235*r-234) / 19 by omega]
 rcases(show r=0∨r=1∨r=2∨r=3∨r=4∨r=5∨r=6∨r=7∨r=8∨r=9∨r=10∨r=11∨r=12∨r=13∨r=14∨r=15∨r=16∨r=17∨r=18 by omega)with rfl|rfl|rfl|rfl|rfl|rfl|rfl|rfl|rfl|rfl|rfl|rfl|rfl|rfl|rfl|rfl|rfl|rfl|rfl <;> simp <;> omega
theorem before_1:Cal.before 1=0:=by decide
theorem before_10000:Cal.before 10000=123671:=by decide+kernel
theorem mY_in(a:Int)(h0:0<=a)(h1:a<123671):1<=mY a/\mY a<=9999:=by unfold mY;omega
theorem mM_in(a:Int):1<=mM a/\mM a<=Cal.most (Cal.leap (mY a)):=by
 have:=mY_spec a
 rw [before_next]at this
 unfold mM;omega
theorem mY_count(a:Int)(h0:0<=a)(h1:a<123671):
  (((List.range 9998).countP (fun i:Nat=> !decide (a<Cal.before ((i:Int)+2))):Nat):Int)=mY a-1:=by
 obtain⟨y1,y2⟩:=mY_in a h0 h1
 obtain⟨s1,s2⟩:=mY_spec a
 have hr:∀t,t<9998->(List.range 9998)[t]! =t:=fun t ht=>by rw [getElem!_pos _ t (by simpa using ht)];simp
 have:=Lib.countP_boundary (fun i:Nat=> !decide (a<Cal.before ((i:Int)+2))) (List.range 9998) (mY a-1).toNat (by simp;omega) (fun t ht=> ?_) (fun t h5 h6=> ?_)
 ·rw [this];omega
 ·rw [hr t (by omega)]
  have:=before_mono ((t:Int)+2) (mY a) (by omega)
  simp only [Bool.not_eq_true',decide_eq_false_iff_not]
  omega
 ·rw [hr t (by simpa using h6)]
  have:=before_mono (mY a+1) ((t:Int)+2) (by omega)
  simp only [Bool.not_eq_false',decide_eq_true_eq]
  omega
theorem last_in{y n:Int}{l:Bool}(h:D10.lastE y n l=0):1<=y/\y<=9999/\Cal.plOk (Cal.leap y) n l=true:=by
 unfold D10.lastE at h
 split at h
 ·rename_i c
  split at h
  ·rename_i p
   obtain⟨h1,h2⟩:=D10.year_in y c
   exact⟨h1,h2,p⟩
  ·omega
 ·omega
theorem before_bd(y:Int)(h1:0<=y)(h2:y<=10000): -20<=Cal.before y/\Cal.before y<=123671:=by unfold Cal.before;omega
theorem plV_bd(lp:Bool)(n:Int)(l:Bool)(h:Cal.plOk lp n l=true):1<=Cal.plV lp n l/\Cal.plV lp n l<=13:=by
 obtain⟨a,b,_⟩:=D10.place_in lp n l h
 unfold Cal.most at b
 refine⟨a, ?_⟩
 split at b <;> omega
theorem lastV_bd{y n:Int}{l:Bool}(h:D10.lastE y n l=0):29<=D10.lastV y n l/\D10.lastV y n l<=30:=by
 obtain⟨h1,h2,p⟩:=last_in h
 obtain⟨a,b,_⟩:=D10.place_in _ _ _ p
 have e:D10.lastV y n l=D10.dLen y (Cal.plV (Cal.leap y) n l):=by simp [D10.lastV,Cal.yearIn_yes y h1 h2,p]
 rw [e]
 exact D10.len_bd y _ h1 h2 a b
end S15
def CodeAt(w:World)(g:Nat)(n:Int)(l:Bool):Prop:=w.cell? ⟨g,0,none⟩=some (.int .i64 n)/\w.cell? ⟨g,1,none⟩=some (.bool l)/\(∀i,w.frozen? ⟨g,i,none⟩=false)/\g<w.heap.size
theorem CodeAt.below{w w':World}{g:Nat}{n:Int}{l:Bool}(h:CodeAt w g n l)(hb:Below w.heap.size w w'):CodeAt w' g n l:=by
 obtain⟨h0,h1,hf,hs⟩:=h
 have c:=fun i=>hb.cell (p:=⟨g,i,none⟩) hs
 exact⟨(c 0).trans h0,(c 1).trans h1,fun i=>(hb.frozen (p:=⟨g,i,none⟩) hs).trans (hf i),Nat.lt_of_lt_of_le hs hb.size⟩
theorem codeAt_alloc(w:World)(n:Int)(l:Bool)(t:TypeId):CodeAt (w.alloc (.cells #[.int .i64 n,.bool l] t)) w.heap.size n l:=⟨by simp [go_sem],by simp [go_sem],fun i=>by simp [go_sem],by simp⟩
theorem codeAt_alloc2(w:World)(o:Obj)(n:Int)(l:Bool)(t:TypeId):CodeAt ((w.alloc o).alloc (.cells #[.int .i64 n,.bool l] t)) (w.heap.size+1) n l:=by
 have h:=codeAt_alloc (w.alloc o) n l t
 rwa [show(w.alloc o).heap.size=w.heap.size+1 by simp]at h
theorem shift_isMode(m:Int)(w:World):Calls Tryo.prog 194 #[.int .i64 m] w fun e w'=>e= .returned (.bool (S15.mode m))/\w=w':=by
 by_cases a:m=0
 ·subst a
  go_enter Tryo.func194,Tryz.ntmps194
  go_wp2_with fail
  go_ret
  exact⟨rfl,rfl⟩
 ·by_cases b:m=1
  ·subst b
   go_enter Tryo.func194,Tryz.ntmps194
   go_wp2_with fail
   go_ret
   exact⟨rfl,rfl⟩
  ·have e1:(m==0)=false:=by simp [a]
   have e2:(m==1)=false:=by simp [b]
   rw [show S15.mode m=false by simp [S15.mode,a,b]]
   clear a b
   go_enter Tryo.func194,Tryz.ntmps194
   go_wp2_with fail
   go_ret
   exact⟨rfl,rfl⟩
theorem shift_before(y:Int)(w:World)(h0:0<=y)(h1:y<=10001):Calls Tryo.prog 195 #[.int .i64 y] w fun e w'=>e= .returned (.int .i64 (Cal.before y))/\w=w':=by
 have H:=Lib.hid (fun w=>cycle_Before_ok y w h0 h1)
 generalize Cal.before y=b at*
 go_enter Tryo.func195,Tryz.ntmps195
 go_wp2_with fail
 refine(H.out _).mono ?_
 rintro e w' ⟨rfl,rfl⟩
 go_wp2_with fail
 go_ret
 exact⟨rfl,rfl⟩
theorem shift_Into_mode(y n:Int)(l:Bool)(m:Int)(w:World)(hm:S15.mode m=false):
  Calls Tryo.prog 132 #[.int .i64 y,.agg #[.int .i64 n,.bool l],.int .i64 m] w fun e w'=>e= .returned (.tuple #[.agg #[.int .i64 0,.bool false],.int .i64 1])/\Below w.heap.size w w':=by
 have HM:=Lib.hid (fun w=>(hm▸shift_isMode m w:Calls Tryo.prog 194 #[.int .i64 m] w fun e w'=>e= .returned (.bool false)/\w=w'))
 clear hm
 go_enter Tryo.func132,Tryz.ntmps132
 go_wp2_with fail
 refine settleC (fun W=>CodeAt W w.heap.size n l/\CodeAt W (w.heap.size+1) 0 false/\Below w.heap.size w W) ⟨CodeAt.below (codeAt_alloc _ _ _ _) (ba _ _),codeAt_alloc2 _ _ _ _ _,baa (ba _ _) _⟩ ?_
 rintro W0 ⟨hC0,hR0,hB0⟩
 have hq:=hC0
 obtain⟨c0,c1,cf,cs⟩:=hq
 have hq:=hR0
 obtain⟨r0,r1,rf,rs⟩:=hq
 refine(HM.out _).mono ?_
 rintro e w' ⟨rfl,rfl⟩
 go_wp2_with fail
 refine bodyPost_ret (v:= .tuple #[.agg #[.int .i64 0,.bool false],.int .i64 1]) (by simp [results,Tryz.results132,go_sem, *]) rfl ⟨rfl, ?_⟩
 iterate 2 refine Below.setCell ?_ (by first|omega|(simp;done)) _
 exact hB0
theorem shift_Into_low(y n:Int)(l:Bool)(m:Int)(w:World)(hm:S15.mode m=true)(h:y<1):
  Calls Tryo.prog 132 #[.int .i64 y,.agg #[.int .i64 n,.bool l],.int .i64 m] w fun e w'=>e= .returned (.tuple #[.agg #[.int .i64 0,.bool false],.int .i64 2])/\Below w.heap.size w w':=by
 have HM:=Lib.hid (fun w=>(hm▸shift_isMode m w:Calls Tryo.prog 194 #[.int .i64 m] w fun e w'=>e= .returned (.bool true)/\w=w'))
 clear hm
 go_enter Tryo.func132,Tryz.ntmps132
 go_wp2_with fail
 refine settleC (fun W=>CodeAt W w.heap.size n l/\CodeAt W (w.heap.size+1) 0 false/\Below w.heap.size w W) ⟨CodeAt.below (codeAt_alloc _ _ _ _) (ba _ _),codeAt_alloc2 _ _ _ _ _,baa (ba _ _) _⟩ ?_
 rintro W0 ⟨hC0,hR0,hB0⟩
 have hq:=hC0
 obtain⟨c0,c1,cf,cs⟩:=hq
 have hq:=hR0
 obtain⟨r0,r1,rf,rs⟩:=hq
 refine(HM.out _).mono ?_
 rintro e w' ⟨rfl,rfl⟩
 go_wp2_with fail
 refine bodyPost_ret (v:= .tuple #[.agg #[.int .i64 0,.bool false],.int .i64 2]) (by simp [results,Tryz.results132,go_sem, *]) rfl ⟨rfl, ?_⟩
 iterate 2 refine Below.setCell ?_ (by first|omega|(simp;done)) _
 exact hB0
theorem shift_Into_high(y n:Int)(l:Bool)(m:Int)(w:World)(hm:S15.mode m=true)(h0:1<=y)(h:9999<y):
  Calls Tryo.prog 132 #[.int .i64 y,.agg #[.int .i64 n,.bool l],.int .i64 m] w fun e w'=>e= .returned (.tuple #[.agg #[.int .i64 0,.bool false],.int .i64 2])/\Below w.heap.size w w':=by
 have HM:=Lib.hid (fun w=>(hm▸shift_isMode m w:Calls Tryo.prog 194 #[.int .i64 m] w fun e w'=>e= .returned (.bool true)/\w=w'))
 clear hm
 go_enter Tryo.func132,Tryz.ntmps132
 go_wp2_with fail
 refine settleC (fun W=>CodeAt W w.heap.size n l/\CodeAt W (w.heap.size+1) 0 false/\Below w.heap.size w W) ⟨CodeAt.below (codeAt_alloc _ _ _ _) (ba _ _),codeAt_alloc2 _ _ _ _ _,baa (ba _ _) _⟩ ?_
 rintro W0 ⟨hC0,hR0,hB0⟩
 have hq:=hC0
 obtain⟨c0,c1,cf,cs⟩:=hq
 have hq:=hR0
 obtain⟨r0,r1,rf,rs⟩:=hq
 refine(HM.out _).mono ?_
 rintro e w' ⟨rfl,rfl⟩
 go_wp2_with fail
 refine bodyPost_ret (v:= .tuple #[.agg #[.int .i64 0,.bool false],.int .i64 2]) (by simp [results,Tryz.results132,go_sem, *]) rfl ⟨rfl, ?_⟩
 iterate 2 refine Below.setCell ?_ (by first|omega|(simp;done)) _
 exact hB0
theorem shift_Into_right(y n:Int)(l:Bool)(m:Int)(w:World)(hm:S15.mode m=true)(h1:1<=y)(h2:y<=9999)(hr:Cal.right n l=false):
  Calls Tryo.prog 132 #[.int .i64 y,.agg #[.int .i64 n,.bool l],.int .i64 m] w fun e w'=>e= .returned (.tuple #[.agg #[.int .i64 0,.bool false],.int .i64 3])/\Below w.heap.size w w':=by
 have HM:=Lib.hid (fun w=>(hm▸shift_isMode m w:Calls Tryo.prog 194 #[.int .i64 m] w fun e w'=>e= .returned (.bool true)/\w=w'))
 clear hm
 have HR:=Lib.hid (fun w=>(hr▸code_Right_any n l w:Calls Tryo.prog 127 #[.agg #[.int .i64 n,.bool l]] w fun e w'=>e= .returned (.bool false)/\Below w.heap.size w w'))
 clear hr
 go_enter Tryo.func132,Tryz.ntmps132
 go_wp2_with fail
 refine settleC (fun W=>CodeAt W w.heap.size n l/\CodeAt W (w.heap.size+1) 0 false/\Below w.heap.size w W) ⟨CodeAt.below (codeAt_alloc _ _ _ _) (ba _ _),codeAt_alloc2 _ _ _ _ _,baa (ba _ _) _⟩ ?_
 rintro W0 ⟨hC0,hR0,hB0⟩
 have hq:=hC0
 obtain⟨c0,c1,cf,cs⟩:=hq
 have hq:=hR0
 obtain⟨r0,r1,rf,rs⟩:=hq
 refine(HM.out _).mono ?_
 rintro e w' ⟨rfl,rfl⟩
 go_wp2_with fail
 refine(HR.out _).mono ?_
 rintro e W1 ⟨rfl,hb1⟩
 have hC1:=CodeAt.below hC0 hb1
 have hR1:=CodeAt.below hR0 hb1
 have hB1:=bt hB0 hb1
 clear c0 c1 cf cs r0 r1 rf rs
 have hq:=hC1
 obtain⟨c0,c1,cf,cs⟩:=hq
 have hq:=hR1
 obtain⟨r0,r1,rf,rs⟩:=hq
 go_wp2_with fail
 refine bodyPost_ret (v:= .tuple #[.agg #[.int .i64 0,.bool false],.int .i64 3]) (by simp [results,Tryz.results132,go_sem, *]) rfl ⟨rfl, ?_⟩
 iterate 2 refine Below.setCell ?_ (by first|omega|(simp;done)) _
 exact hB1
theorem shift_Into_ok(y n:Int)(l:Bool)(m:Int)(w:World)(hm:S15.mode m=true)(h1:1<=y)(h2:y<=9999)(hr:Cal.right n l=true)(hp:Cal.plOk (Cal.leap y) n l=true):
  Calls Tryo.prog 132 #[.int .i64 y,.agg #[.int .i64 n,.bool l],.int .i64 m] w fun e w'=>e= .returned (.tuple #[.agg #[.int .i64 n,.bool l],.int .i64 0])/\Below w.heap.size w w':=by
 have HM:=Lib.hid (fun w=>(hm▸shift_isMode m w:Calls Tryo.prog 194 #[.int .i64 m] w fun e w'=>e= .returned (.bool true)/\w=w'))
 clear hm
 have HR:=Lib.hid (fun w=>(hr▸code_Right_any n l w:Calls Tryo.prog 127 #[.agg #[.int .i64 n,.bool l]] w fun e w'=>e= .returned (.bool true)/\Below w.heap.size w w'))
 clear hr
 have HL:=Lib.hid (fun w=>cycle_Leap_ok y w (by omega) (by omega))
 have HP:=Lib.hid (fun w=>(hp▸code_Place_any (Cal.leap y) n l w:Calls Tryo.prog 191 #[.bool (Cal.leap y),.agg #[.int .i64 n,.bool l]] w fun e w'=>e= .returned (.tuple #[.int .i64 (Cal.plV (Cal.leap y) n l),.bool true])/\Below w.heap.size w w'))
 clear hp
 generalize Cal.plV (Cal.leap y) n l=pv at*
 generalize Cal.leap y=lp at*
 go_enter Tryo.func132,Tryz.ntmps132
 go_wp2_with fail
 refine settleC (fun W=>CodeAt W w.heap.size n l/\CodeAt W (w.heap.size+1) 0 false/\Below w.heap.size w W) ⟨CodeAt.below (codeAt_alloc _ _ _ _) (ba _ _),codeAt_alloc2 _ _ _ _ _,baa (ba _ _) _⟩ ?_
 rintro W0 ⟨hC0,hR0,hB0⟩
 have hq:=hC0
 obtain⟨c0,c1,cf,cs⟩:=hq
 have hq:=hR0
 obtain⟨r0,r1,rf,rs⟩:=hq
 refine(HM.out _).mono ?_
 rintro e w' ⟨rfl,rfl⟩
 go_wp2_with fail
 refine(HR.out _).mono ?_
 rintro e W1 ⟨rfl,hb1⟩
 have hC1:=CodeAt.below hC0 hb1
 have hR1:=CodeAt.below hR0 hb1
 have hB1:=bt hB0 hb1
 clear c0 c1 cf cs r0 r1 rf rs
 have hq:=hC1
 obtain⟨c0,c1,cf,cs⟩:=hq
 have hq:=hR1
 obtain⟨r0,r1,rf,rs⟩:=hq
 go_wp2_with fail
 refine(HL.out _).mono ?_
 rintro e w' ⟨rfl,rfl⟩
 go_wp2_with fail
 refine(HP.out _).mono ?_
 rintro e W2 ⟨rfl,hb2⟩
 have hC2:=CodeAt.below hC1 hb2
 have hR2:=CodeAt.below hR1 hb2
 have hB2:=bt hB1 hb2
 clear c0 c1 cf cs r0 r1 rf rs
 have hq:=hC2
 obtain⟨c0,c1,cf,cs⟩:=hq
 have hq:=hR2
 obtain⟨r0,r1,rf,rs⟩:=hq
 go_wp2_with fail
 refine bodyPost_ret (v:= .tuple #[.agg #[.int .i64 n,.bool l],.int .i64 0]) (by simp [results,Tryz.results132,go_sem, *]) rfl ⟨rfl, ?_⟩
 iterate 2 refine Below.setCell ?_ (by first|omega|(simp;done)) _
 exact hB2
theorem shift_Into_rej(y n:Int)(l:Bool)(m:Int)(w:World)(hm:S15.mode m=true)(h1:1<=y)(h2:y<=9999)(hr:Cal.right n l=true)(hp:Cal.plOk (Cal.leap y) n l=false)(h7:m=1):
  Calls Tryo.prog 132 #[.int .i64 y,.agg #[.int .i64 n,.bool l],.int .i64 m] w fun e w'=>e= .returned (.tuple #[.agg #[.int .i64 0,.bool false],.int .i64 7])/\Below w.heap.size w w':=by
 subst h7
 have HM:=Lib.hid (fun w=>(hm▸shift_isMode 1 w:Calls Tryo.prog 194 #[.int .i64 1] w fun e w'=>e= .returned (.bool true)/\w=w'))
 clear hm
 have HR:=Lib.hid (fun w=>(hr▸code_Right_any n l w:Calls Tryo.prog 127 #[.agg #[.int .i64 n,.bool l]] w fun e w'=>e= .returned (.bool true)/\Below w.heap.size w w'))
 clear hr
 have HL:=Lib.hid (fun w=>cycle_Leap_ok y w (by omega) (by omega))
 have HP:=Lib.hid (fun w=>(hp▸code_Place_any (Cal.leap y) n l w:Calls Tryo.prog 191 #[.bool (Cal.leap y),.agg #[.int .i64 n,.bool l]] w fun e w'=>e= .returned (.tuple #[.int .i64 (Cal.plV (Cal.leap y) n l),.bool false])/\Below w.heap.size w w'))
 clear hp
 generalize Cal.plV (Cal.leap y) n l=pv at*
 generalize Cal.leap y=lp at*
 go_enter Tryo.func132,Tryz.ntmps132
 go_wp2_with fail
 refine settleC (fun W=>CodeAt W w.heap.size n l/\CodeAt W (w.heap.size+1) 0 false/\Below w.heap.size w W) ⟨CodeAt.below (codeAt_alloc _ _ _ _) (ba _ _),codeAt_alloc2 _ _ _ _ _,baa (ba _ _) _⟩ ?_
 rintro W0 ⟨hC0,hR0,hB0⟩
 have hq:=hC0
 obtain⟨c0,c1,cf,cs⟩:=hq
 have hq:=hR0
 obtain⟨r0,r1,rf,rs⟩:=hq
 refine(HM.out _).mono ?_
 rintro e w' ⟨rfl,rfl⟩
 go_wp2_with fail
 refine(HR.out _).mono ?_
 rintro e W1 ⟨rfl,hb1⟩
 have hC1:=CodeAt.below hC0 hb1
 have hR1:=CodeAt.below hR0 hb1
 have hB1:=bt hB0 hb1
 clear c0 c1 cf cs r0 r1 rf rs
 have hq:=hC1
 obtain⟨c0,c1,cf,cs⟩:=hq
 have hq:=hR1
 obtain⟨r0,r1,rf,rs⟩:=hq
 go_wp2_with fail
 refine(HL.out _).mono ?_
 rintro e w' ⟨rfl,rfl⟩
 go_wp2_with fail
 refine(HP.out _).mono ?_
 rintro e W2 ⟨rfl,hb2⟩
 have hC2:=CodeAt.below hC1 hb2
 have hR2:=CodeAt.below hR1 hb2
 have hB2:=bt hB1 hb2
 clear c0 c1 cf cs r0 r1 rf rs
 have hq:=hC2
 obtain⟨c0,c1,cf,cs⟩:=hq
 have hq:=hR2
 obtain⟨r0,r1,rf,rs⟩:=hq
 go_wp2_with fail
 refine bodyPost_ret (v:= .tuple #[.agg #[.int .i64 0,.bool false],.int .i64 7]) (by simp [results,Tryz.results132,go_sem, *]) rfl ⟨rfl, ?_⟩
 iterate 2 refine Below.setCell ?_ (by first|omega|(simp;done)) _
 exact hB2
theorem shift_Into_six(y n:Int)(l:Bool)(m:Int)(w:World)(hm:S15.mode m=true)(h1:1<=y)(h2:y<=9999)(hr:Cal.right n l=true)(hp:Cal.plOk (Cal.leap y) n l=false)(h7:m=0):
  Calls Tryo.prog 132 #[.int .i64 y,.agg #[.int .i64 n,.bool l],.int .i64 m] w fun e w'=>e= .returned (.tuple #[.agg #[.int .i64 6,.bool false],.int .i64 0])/\Below w.heap.size w w':=by
 subst h7
 have HM:=Lib.hid (fun w=>(hm▸shift_isMode 0 w:Calls Tryo.prog 194 #[.int .i64 0] w fun e w'=>e= .returned (.bool true)/\w=w'))
 clear hm
 have HR:=Lib.hid (fun w=>(hr▸code_Right_any n l w:Calls Tryo.prog 127 #[.agg #[.int .i64 n,.bool l]] w fun e w'=>e= .returned (.bool true)/\Below w.heap.size w w'))
 clear hr
 have HL:=Lib.hid (fun w=>cycle_Leap_ok y w (by omega) (by omega))
 have HP:=Lib.hid (fun w=>(hp▸code_Place_any (Cal.leap y) n l w:Calls Tryo.prog 191 #[.bool (Cal.leap y),.agg #[.int .i64 n,.bool l]] w fun e w'=>e= .returned (.tuple #[.int .i64 (Cal.plV (Cal.leap y) n l),.bool false])/\Below w.heap.size w w'))
 clear hp
 generalize Cal.plV (Cal.leap y) n l=pv at*
 generalize Cal.leap y=lp at*
 go_enter Tryo.func132,Tryz.ntmps132
 go_wp2_with fail
 refine settleC (fun W=>CodeAt W w.heap.size n l/\CodeAt W (w.heap.size+1) 0 false/\Below w.heap.size w W) ⟨CodeAt.below (codeAt_alloc _ _ _ _) (ba _ _),codeAt_alloc2 _ _ _ _ _,baa (ba _ _) _⟩ ?_
 rintro W0 ⟨hC0,hR0,hB0⟩
 have hq:=hC0
 obtain⟨c0,c1,cf,cs⟩:=hq
 have hq:=hR0
 obtain⟨r0,r1,rf,rs⟩:=hq
 refine(HM.out _).mono ?_
 rintro e w' ⟨rfl,rfl⟩
 go_wp2_with fail
 refine(HR.out _).mono ?_
 rintro e W1 ⟨rfl,hb1⟩
 have hC1:=CodeAt.below hC0 hb1
 have hR1:=CodeAt.below hR0 hb1
 have hB1:=bt hB0 hb1
 clear c0 c1 cf cs r0 r1 rf rs
 have hq:=hC1
 obtain⟨c0,c1,cf,cs⟩:=hq
 have hq:=hR1
 obtain⟨r0,r1,rf,rs⟩:=hq
 go_wp2_with fail
 refine(HL.out _).mono ?_
 rintro e w' ⟨rfl,rfl⟩
 go_wp2_with fail
 refine(HP.out _).mono ?_
 rintro e W2 ⟨rfl,hb2⟩
 have hC2:=CodeAt.below hC1 hb2
 have hR2:=CodeAt.below hR1 hb2
 have hB2:=bt hB1 hb2
 clear c0 c1 cf cs r0 r1 rf rs
 have hq:=hC2
 obtain⟨c0,c1,cf,cs⟩:=hq
 have hq:=hR2
 obtain⟨r0,r1,rf,rs⟩:=hq
 go_wp2_with fail
 refine bodyPost_ret (v:= .tuple #[.agg #[.int .i64 6,.bool false],.int .i64 0]) (by simp [results,Tryz.results132,go_sem, *]) rfl ⟨rfl, ?_⟩
 iterate 2 refine Below.setCell ?_ (by first|omega|(simp;done)) _
 exact hB2
theorem shift_Into(y n:Int)(l:Bool)(m:Int)(w:World):
  Calls Tryo.prog 132 #[.int .i64 y,.agg #[.int .i64 n,.bool l],.int .i64 m] w fun e w'=>e= .returned (.tuple #[.agg #[.int .i64 (S15.intoN y n l m),.bool (S15.intoL y n l m)],.int .i64 (S15.intoE y n l m)])/\Below w.heap.size w w':=by
 unfold S15.intoN S15.intoL
 cases hm:S15.mode m
 ·rw [show S15.intoE y n l m=1 by simp [S15.intoE,hm]]
  exact shift_Into_mode y n l m w hm
 cases hy:Cal.yearIn y
 ·rw [show S15.intoE y n l m=2 by simp [S15.intoE,hm,hy]]
  rcases D10.year_out y hy with c|c
  ·exact shift_Into_low y n l m w hm c
  ·exact shift_Into_high y n l m w hm (by omega) c
 obtain⟨h1,h2⟩:=D10.year_in y hy
 cases hr:Cal.right n l
 ·rw [show S15.intoE y n l m=3 by simp [S15.intoE,hm,hy,hr]]
  exact shift_Into_right y n l m w hm h1 h2 hr
 cases hp:Cal.plOk (Cal.leap y) n l
 ·by_cases c:m=1
  ·rw [show S15.intoE y n l m=7 by subst c;simp [S15.intoE,hm,hy,hr,hp]]
   exact shift_Into_rej y n l m w hm h1 h2 hr hp c
  ·have c0:m=0:=by simp [S15.mode,c]at hm;exact hm
   rw [show S15.intoE y n l m=0 by simp [S15.intoE,hm,hy,hr,hp,c]]
   exact shift_Into_six y n l m w hm h1 h2 hr hp c0
 ·rw [show S15.intoE y n l m=0 by simp [S15.intoE,hm,hy,hr,hp]]
  exact shift_Into_ok y n l m w hm h1 h2 hr hp
theorem shift_Fit_mode(y n:Int)(l:Bool)(d m:Int)(w:World)(hy:I64 y)(hT:Tab w 7 kevCells)(hL:Tab w 5 lenCells)(hm:S15.mode m=false):
  Calls Tryo.prog 134 #[.int .i64 y,.agg #[.int .i64 n,.bool l],.int .i64 d,.int .i64 m] w fun e w'=>e= .returned (.tuple #[.int .i64 0,.int .i64 1])/\Below w.heap.size w w':=by
 have HM:=Lib.hid (fun w=>(hm▸shift_isMode m w:Calls Tryo.prog 194 #[.int .i64 m] w fun e w'=>e= .returned (.bool false)/\w=w'))
 clear hm
 go_enter Tryo.func134,Tryz.ntmps134
 go_wp2_with fail
 refine(HM.out _).mono ?_
 rintro e w' ⟨rfl,rfl⟩
 go_wp2_with fail
 go_ret2
 refine⟨rfl, ?_⟩
 repeat(first|(with_reducible exact Below.refl _ _)|(with_reducible assumption)|(with_reducible refine bdrew ?_)|(with_reducible refine baa ?_ _)|(with_reducible refine bs ?_ (by first|exact Nat.le_refl _|omega|(simp;omega)) _)|(with_reducible refine bt ?_ (by with_reducible assumption)))
theorem shift_Fit_last(y n:Int)(l:Bool)(d m:Int)(w:World)(hy:I64 y)(hT:Tab w 7 kevCells)(hL:Tab w 5 lenCells)(hm:S15.mode m=true)(he:¬ D10.lastE y n l=0):
  Calls Tryo.prog 134 #[.int .i64 y,.agg #[.int .i64 n,.bool l],.int .i64 d,.int .i64 m] w fun e w'=>e= .returned (.tuple #[.int .i64 0,.int .i64 (D10.lastE y n l)])/\Below w.heap.size w w':=by
 have HM:=Lib.hid (fun w=>(hm▸shift_isMode m w:Calls Tryo.prog 194 #[.int .i64 m] w fun e w'=>e= .returned (.bool true)/\w=w'))
 clear hm
 have HL:=Lib.hid (fun w hT hL=>heb_Last y n l w hy hT hL)
 generalize D10.lastE y n l=le at*
 generalize D10.lastV y n l=lv at*
 have he2:(le !=0)=true:=by simpa using he
 go_enter Tryo.func134,Tryz.ntmps134
 go_wp2_with fail
 refine(HM.out _).mono ?_
 rintro e w' ⟨rfl,rfl⟩
 go_wp2_with fail
 refine(HL.out _ (Tab.below hT (by repeat(first|(with_reducible exact Below.refl _ _)|(with_reducible assumption)|(with_reducible refine bdrew ?_)|(with_reducible refine baa ?_ _)|(with_reducible refine bs ?_ (by first|exact Nat.le_refl _|omega|(simp;omega)) _)|(with_reducible refine bt ?_ (by with_reducible assumption))))) (Tab.below hL (by repeat(first|(with_reducible exact Below.refl _ _)|(with_reducible assumption)|(with_reducible refine bdrew ?_)|(with_reducible refine baa ?_ _)|(with_reducible refine bs ?_ (by first|exact Nat.le_refl _|omega|(simp;omega)) _)|(with_reducible refine bt ?_ (by with_reducible assumption)))))).mono ?_
 rintro e w1 ⟨rfl,hb1⟩
 obtain⟨hc1,hf1⟩:=bcell hb1
 have hz1:=hb1.size
 try simp at hz1
 have hs1x0:w.heap.size<w1.heap.size:=by omega
 have g1x0:w1.cell? ⟨w.heap.size,0,none⟩=some (.int .i64 n):=cel hc1
 have g1x1:w1.cell? ⟨w.heap.size,1,none⟩=some (.bool l):=cel hc1
 go_wp2_with fail
 go_ret2
 refine⟨rfl, ?_⟩
 repeat(first|(with_reducible exact Below.refl _ _)|(with_reducible assumption)|(with_reducible refine bdrew ?_)|(with_reducible refine baa ?_ _)|(with_reducible refine bs ?_ (by first|exact Nat.le_refl _|omega|(simp;omega)) _)|(with_reducible refine bt ?_ (by with_reducible assumption)))
theorem shift_Fit_low(y n:Int)(l:Bool)(d m:Int)(w:World)(hy:I64 y)(hT:Tab w 7 kevCells)(hL:Tab w 5 lenCells)(hm:S15.mode m=true)(he:D10.lastE y n l=0)(hd:d<1):
  Calls Tryo.prog 134 #[.int .i64 y,.agg #[.int .i64 n,.bool l],.int .i64 d,.int .i64 m] w fun e w'=>e= .returned (.tuple #[.int .i64 0,.int .i64 4])/\Below w.heap.size w w':=by
 have HM:=Lib.hid (fun w=>(hm▸shift_isMode m w:Calls Tryo.prog 194 #[.int .i64 m] w fun e w'=>e= .returned (.bool true)/\w=w'))
 clear hm
 have hbd:=S15.lastV_bd he
 have HL:=Lib.hid (fun w hT hL=>heb_Last y n l w hy hT hL)
 rw [he]at HL
 clear he
 generalize D10.lastV y n l=lv at*
 go_enter Tryo.func134,Tryz.ntmps134
 go_wp2_with fail
 refine(HM.out _).mono ?_
 rintro e w' ⟨rfl,rfl⟩
 go_wp2_with fail
 refine(HL.out _ (Tab.below hT (by repeat(first|(with_reducible exact Below.refl _ _)|(with_reducible assumption)|(with_reducible refine bdrew ?_)|(with_reducible refine baa ?_ _)|(with_reducible refine bs ?_ (by first|exact Nat.le_refl _|omega|(simp;omega)) _)|(with_reducible refine bt ?_ (by with_reducible assumption))))) (Tab.below hL (by repeat(first|(with_reducible exact Below.refl _ _)|(with_reducible assumption)|(with_reducible refine bdrew ?_)|(with_reducible refine baa ?_ _)|(with_reducible refine bs ?_ (by first|exact Nat.le_refl _|omega|(simp;omega)) _)|(with_reducible refine bt ?_ (by with_reducible assumption)))))).mono ?_
 rintro e w1 ⟨rfl,hb1⟩
 obtain⟨hc1,hf1⟩:=bcell hb1
 have hz1:=hb1.size
 try simp at hz1
 have hs1x0:w.heap.size<w1.heap.size:=by omega
 have g1x0:w1.cell? ⟨w.heap.size,0,none⟩=some (.int .i64 n):=cel hc1
 have g1x1:w1.cell? ⟨w.heap.size,1,none⟩=some (.bool l):=cel hc1
 go_wp2_with fail
 go_ret2
 refine⟨rfl, ?_⟩
 repeat(first|(with_reducible exact Below.refl _ _)|(with_reducible assumption)|(with_reducible refine bdrew ?_)|(with_reducible refine baa ?_ _)|(with_reducible refine bs ?_ (by first|exact Nat.le_refl _|omega|(simp;omega)) _)|(with_reducible refine bt ?_ (by with_reducible assumption)))
theorem shift_Fit_high(y n:Int)(l:Bool)(d m:Int)(w:World)(hy:I64 y)(hT:Tab w 7 kevCells)(hL:Tab w 5 lenCells)(hm:S15.mode m=true)(he:D10.lastE y n l=0)(hd0:1<=d)(hd:30<d):
  Calls Tryo.prog 134 #[.int .i64 y,.agg #[.int .i64 n,.bool l],.int .i64 d,.int .i64 m] w fun e w'=>e= .returned (.tuple #[.int .i64 0,.int .i64 4])/\Below w.heap.size w w':=by
 have HM:=Lib.hid (fun w=>(hm▸shift_isMode m w:Calls Tryo.prog 194 #[.int .i64 m] w fun e w'=>e= .returned (.bool true)/\w=w'))
 clear hm
 have hbd:=S15.lastV_bd he
 have HL:=Lib.hid (fun w hT hL=>heb_Last y n l w hy hT hL)
 rw [he]at HL
 clear he
 generalize D10.lastV y n l=lv at*
 go_enter Tryo.func134,Tryz.ntmps134
 go_wp2_with fail
 refine(HM.out _).mono ?_
 rintro e w' ⟨rfl,rfl⟩
 go_wp2_with fail
 refine(HL.out _ (Tab.below hT (by repeat(first|(with_reducible exact Below.refl _ _)|(with_reducible assumption)|(with_reducible refine bdrew ?_)|(with_reducible refine baa ?_ _)|(with_reducible refine bs ?_ (by first|exact Nat.le_refl _|omega|(simp;omega)) _)|(with_reducible refine bt ?_ (by with_reducible assumption))))) (Tab.below hL (by repeat(first|(with_reducible exact Below.refl _ _)|(with_reducible assumption)|(with_reducible refine bdrew ?_)|(with_reducible refine baa ?_ _)|(with_reducible refine bs ?_ (by first|exact Nat.le_refl _|omega|(simp;omega)) _)|(with_reducible refine bt ?_ (by with_reducible assumption)))))).mono ?_
 rintro e w1 ⟨rfl,hb1⟩
 obtain⟨hc1,hf1⟩:=bcell hb1
 have hz1:=hb1.size
 try simp at hz1
 have hs1x0:w.heap.size<w1.heap.size:=by omega
 have g1x0:w1.cell? ⟨w.heap.size,0,none⟩=some (.int .i64 n):=cel hc1
 have g1x1:w1.cell? ⟨w.heap.size,1,none⟩=some (.bool l):=cel hc1
 go_wp2_with fail
 go_ret2
 refine⟨rfl, ?_⟩
 repeat(first|(with_reducible exact Below.refl _ _)|(with_reducible assumption)|(with_reducible refine bdrew ?_)|(with_reducible refine baa ?_ _)|(with_reducible refine bs ?_ (by first|exact Nat.le_refl _|omega|(simp;omega)) _)|(with_reducible refine bt ?_ (by with_reducible assumption)))
theorem shift_Fit_ok(y n:Int)(l:Bool)(d m:Int)(w:World)(hy:I64 y)(hT:Tab w 7 kevCells)(hL:Tab w 5 lenCells)(hm:S15.mode m=true)(he:D10.lastE y n l=0)(hd0:1<=d)(hd:d<=30)(hv:d<=D10.lastV y n l):
  Calls Tryo.prog 134 #[.int .i64 y,.agg #[.int .i64 n,.bool l],.int .i64 d,.int .i64 m] w fun e w'=>e= .returned (.tuple #[.int .i64 d,.int .i64 0])/\Below w.heap.size w w':=by
 have HM:=Lib.hid (fun w=>(hm▸shift_isMode m w:Calls Tryo.prog 194 #[.int .i64 m] w fun e w'=>e= .returned (.bool true)/\w=w'))
 clear hm
 have hbd:=S15.lastV_bd he
 have HL:=Lib.hid (fun w hT hL=>heb_Last y n l w hy hT hL)
 rw [he]at HL
 clear he
 generalize D10.lastV y n l=lv at*
 go_enter Tryo.func134,Tryz.ntmps134
 go_wp2_with fail
 refine(HM.out _).mono ?_
 rintro e w' ⟨rfl,rfl⟩
 go_wp2_with fail
 refine(HL.out _ (Tab.below hT (by repeat(first|(with_reducible exact Below.refl _ _)|(with_reducible assumption)|(with_reducible refine bdrew ?_)|(with_reducible refine baa ?_ _)|(with_reducible refine bs ?_ (by first|exact Nat.le_refl _|omega|(simp;omega)) _)|(with_reducible refine bt ?_ (by with_reducible assumption))))) (Tab.below hL (by repeat(first|(with_reducible exact Below.refl _ _)|(with_reducible assumption)|(with_reducible refine bdrew ?_)|(with_reducible refine baa ?_ _)|(with_reducible refine bs ?_ (by first|exact Nat.le_refl _|omega|(simp;omega)) _)|(with_reducible refine bt ?_ (by with_reducible assumption)))))).mono ?_
 rintro e w1 ⟨rfl,hb1⟩
 obtain⟨hc1,hf1⟩:=bcell hb1
 have hz1:=hb1.size
 try simp at hz1
 have hs1x0:w.heap.size<w1.heap.size:=by omega
 have g1x0:w1.cell? ⟨w.heap.size,0,none⟩=some (.int .i64 n):=cel hc1
 have g1x1:w1.cell? ⟨w.heap.size,1,none⟩=some (.bool l):=cel hc1
 go_wp2_with fail
 go_ret2
 refine⟨rfl, ?_⟩
 repeat(first|(with_reducible exact Below.refl _ _)|(with_reducible assumption)|(with_reducible refine bdrew ?_)|(with_reducible refine baa ?_ _)|(with_reducible refine bs ?_ (by first|exact Nat.le_refl _|omega|(simp;omega)) _)|(with_reducible refine bt ?_ (by with_reducible assumption)))
theorem shift_Fit_rej(y n:Int)(l:Bool)(d m:Int)(w:World)(hy:I64 y)(hT:Tab w 7 kevCells)(hL:Tab w 5 lenCells)(hm:S15.mode m=true)(he:D10.lastE y n l=0)(hd0:1<=d)(hd:d<=30)(hv:D10.lastV y n l<d)(h7:m=1):
  Calls Tryo.prog 134 #[.int .i64 y,.agg #[.int .i64 n,.bool l],.int .i64 d,.int .i64 m] w fun e w'=>e= .returned (.tuple #[.int .i64 0,.int .i64 7])/\Below w.heap.size w w':=by
 subst h7
 have HM:=Lib.hid (fun w=>(hm▸shift_isMode 1 w:Calls Tryo.prog 194 #[.int .i64 1] w fun e w'=>e= .returned (.bool true)/\w=w'))
 clear hm
 have hbd:=S15.lastV_bd he
 have HL:=Lib.hid (fun w hT hL=>heb_Last y n l w hy hT hL)
 rw [he]at HL
 clear he
 generalize D10.lastV y n l=lv at*
 go_enter Tryo.func134,Tryz.ntmps134
 go_wp2_with fail
 refine(HM.out _).mono ?_
 rintro e w' ⟨rfl,rfl⟩
 go_wp2_with fail
 refine(HL.out _ (Tab.below hT (by repeat(first|(with_reducible exact Below.refl _ _)|(with_reducible assumption)|(with_reducible refine bdrew ?_)|(with_reducible refine baa ?_ _)|(with_reducible refine bs ?_ (by first|exact Nat.le_refl _|omega|(simp;omega)) _)|(with_reducible refine bt ?_ (by with_reducible assumption))))) (Tab.below hL (by repeat(first|(with_reducible exact Below.refl _ _)|(with_reducible assumption)|(with_reducible refine bdrew ?_)|(with_reducible refine baa ?_ _)|(with_reducible refine bs ?_ (by first|exact Nat.le_refl _|omega|(simp;omega)) _)|(with_reducible refine bt ?_ (by with_reducible assumption)))))).mono ?_
 rintro e w1 ⟨rfl,hb1⟩
 obtain⟨hc1,hf1⟩:=bcell hb1
 have hz1:=hb1.size
 try simp at hz1
 have hs1x0:w.heap.size<w1.heap.size:=by omega
 have g1x0:w1.cell? ⟨w.heap.size,0,none⟩=some (.int .i64 n):=cel hc1
 have g1x1:w1.cell? ⟨w.heap.size,1,none⟩=some (.bool l):=cel hc1
 go_wp2_with fail
 go_ret2
 refine⟨rfl, ?_⟩
 repeat(first|(with_reducible exact Below.refl _ _)|(with_reducible assumption)|(with_reducible refine bdrew ?_)|(with_reducible refine baa ?_ _)|(with_reducible refine bs ?_ (by first|exact Nat.le_refl _|omega|(simp;omega)) _)|(with_reducible refine bt ?_ (by with_reducible assumption)))
theorem shift_Fit_last_ok(y n:Int)(l:Bool)(d m:Int)(w:World)(hy:I64 y)(hT:Tab w 7 kevCells)(hL:Tab w 5 lenCells)(hm:S15.mode m=true)(he:D10.lastE y n l=0)(hd0:1<=d)(hd:d<=30)(hv:D10.lastV y n l<d)(h7:m=0):
  Calls Tryo.prog 134 #[.int .i64 y,.agg #[.int .i64 n,.bool l],.int .i64 d,.int .i64 m] w fun e w'=>e= .returned (.tuple #[.int .i64 (D10.lastV y n l),.int .i64 0])/\Below w.heap.size w w':=by
 subst h7
 have HM:=Lib.hid (fun w=>(hm▸shift_isMode 0 w:Calls Tryo.prog 194 #[.int .i64 0] w fun e w'=>e= .returned (.bool true)/\w=w'))
 clear hm
 have hbd:=S15.lastV_bd he
 have HL:=Lib.hid (fun w hT hL=>heb_Last y n l w hy hT hL)
 rw [he]at HL
 clear he
 generalize D10.lastV y n l=lv at*
 go_enter Tryo.func134,Tryz.ntmps134
 go_wp2_with fail
 refine(HM.out _).mono ?_
 rintro e w' ⟨rfl,rfl⟩
 go_wp2_with fail
 refine(HL.out _ (Tab.below hT (by repeat(first|(with_reducible exact Below.refl _ _)|(with_reducible assumption)|(with_reducible refine bdrew ?_)|(with_reducible refine baa ?_ _)|(with_reducible refine bs ?_ (by first|exact Nat.le_refl _|omega|(simp;omega)) _)|(with_reducible refine bt ?_ (by with_reducible assumption))))) (Tab.below hL (by repeat(first|(with_reducible exact Below.refl _ _)|(with_reducible assumption)|(with_reducible refine bdrew ?_)|(with_reducible refine baa ?_ _)|(with_reducible refine bs ?_ (by first|exact Nat.le_refl _|omega|(simp;omega)) _)|(with_reducible refine bt ?_ (by with_reducible assumption)))))).mono ?_
 rintro e w1 ⟨rfl,hb1⟩
 obtain⟨hc1,hf1⟩:=bcell hb1
 have hz1:=hb1.size
 try simp at hz1
 have hs1x0:w.heap.size<w1.heap.size:=by omega
 have g1x0:w1.cell? ⟨w.heap.size,0,none⟩=some (.int .i64 n):=cel hc1
 have g1x1:w1.cell? ⟨w.heap.size,1,none⟩=some (.bool l):=cel hc1
 go_wp2_with fail
 go_ret2
 refine⟨rfl, ?_⟩
 repeat(first|(with_reducible exact Below.refl _ _)|(with_reducible assumption)|(with_reducible refine bdrew ?_)|(with_reducible refine baa ?_ _)|(with_reducible refine bs ?_ (by first|exact Nat.le_refl _|omega|(simp;omega)) _)|(with_reducible refine bt ?_ (by with_reducible assumption)))
theorem shift_Fit(y n:Int)(l:Bool)(d m:Int)(w:World)(hy:I64 y)(hT:Tab w 7 kevCells)(hL:Tab w 5 lenCells):
  Calls Tryo.prog 134 #[.int .i64 y,.agg #[.int .i64 n,.bool l],.int .i64 d,.int .i64 m] w fun e w'=>e= .returned (.tuple #[.int .i64 (S15.fitV y n l d m),.int .i64 (S15.fitE y n l d m)])/\Below w.heap.size w w':=by
 unfold S15.fitV
 cases hm:S15.mode m
 ·rw [show S15.fitE y n l d m=1 by simp [S15.fitE,hm]]
  exact shift_Fit_mode y n l d m w hy hT hL hm
 by_cases he:D10.lastE y n l=0
 ·by_cases c1:d<1∨30<d
  ·rw [show S15.fitE y n l d m=4 by simp [S15.fitE,hm,he,c1]]
   by_cases c:d<1
   ·exact shift_Fit_low y n l d m w hy hT hL hm he c
   ·exact shift_Fit_high y n l d m w hy hT hL hm he (by omega) (by omega)
  ·by_cases c2:d<=D10.lastV y n l
   ·rw [show S15.fitE y n l d m=0 by simp [S15.fitE,hm,he,c1,c2],if_pos rfl,if_pos c2]
    exact shift_Fit_ok y n l d m w hy hT hL hm he (by omega) (by omega) c2
   ·by_cases c3:m=1
    ·rw [show S15.fitE y n l d m=7 by subst c3;simp [S15.fitE,hm,he,c1,c2]]
     exact shift_Fit_rej y n l d m w hy hT hL hm he (by omega) (by omega) (by omega) c3
    ·have c0:m=0:=by simp [S15.mode,c3]at hm;exact hm
     rw [show S15.fitE y n l d m=0 by simp [S15.fitE,hm,he,c1,c2,c3],if_pos rfl,if_neg c2]
     exact shift_Fit_last_ok y n l d m w hy hT hL hm he (by omega) (by omega) (by omega) c0
 ·have e:S15.fitE y n l d m=D10.lastE y n l:=by simp [S15.fitE,hm,he]
  rw [e,if_neg he]
  exact shift_Fit_last y n l d m w hy hT hL hm he
end Go.Proofs.YthnjjcoahdhmnaaGreatDoor
end
section
namespace Go.Proofs.YthnjjcoahdhmnaaGreatDoor
open Go.ChangeShapes Go.WideShapes Go.ChangeAt Go.RowKit Go.Sort
end Go.Proofs.YthnjjcoahdhmnaaGreatDoor
end
section
namespace Go.Proofs.YthnjjcoahdhmnaaGreatDoor
open Go.ChangeShapes Go.WideShapes Go.ChangeAt Go.RowKit Go.Sort
theorem shift_Months_last(y n:Int)(l:Bool)(k:Int)(w:World)(hy:I64 y)(hT:Tab w 7 kevCells)(hL:Tab w 5 lenCells)(he:¬ D10.lastE y n l=0):
  Calls Tryo.prog 133 #[.int .i64 y,.agg #[.int .i64 n,.bool l],.int .i64 k] w fun e w'=>e= .returned (.tuple #[.int .i64 0,.agg #[.int .i64 0,.bool false],.int .i64 (D10.lastE y n l)])/\Below w.heap.size w w':=by
 have HL:=Lib.hid (fun w hT hL=>heb_Last y n l w hy hT hL)
 generalize hle:D10.lastE y n l=le at*
 generalize D10.lastV y n l=lv at*
 have he2:(le !=0)=true:=by simpa using he
 clear hle
 go_enter Tryo.func133,Tryz.ntmps133
 go_wp2_with fail
 refine settleC (fun W=>CodeAt W w.heap.size n l/\CodeAt W (w.heap.size+1) 0 false/\Below w.heap.size w W) ⟨CodeAt.below (codeAt_alloc _ _ _ _) (ba _ _),codeAt_alloc2 _ _ _ _ _,baa (ba _ _) _⟩ ?_
 rintro W0 ⟨hC0,hR0,hB0⟩
 have hq:=hC0
 obtain⟨c0,c1,cf,cs⟩:=hq
 have hq:=hR0
 obtain⟨r0,r1,rf,rs⟩:=hq
 refine(HL.out _ (Tab.below hT hB0) (Tab.below hL hB0)).mono ?_
 rintro e W1 ⟨rfl,hb1⟩
 have hC1:=CodeAt.below hC0 hb1
 have hR1:=CodeAt.below hR0 hb1
 have hB1:=bt hB0 hb1
 clear c0 c1 cf cs r0 r1 rf rs
 have hq:=hC1
 obtain⟨c0,c1,cf,cs⟩:=hq
 have hq:=hR1
 obtain⟨r0,r1,rf,rs⟩:=hq
 go_wp2_with fail
 refine bodyPost_ret (v:= .tuple #[.int .i64 0,.agg #[.int .i64 0,.bool false],.int .i64 le]) (by simp [results,Tryz.results133,go_sem, *]) rfl ⟨rfl, ?_⟩
 iterate 2 refine Below.setCell ?_ (by first|omega|(simp;done)) _
 exact hB1
theorem shift_Months_low(y n:Int)(l:Bool)(k:Int)(w:World)(hy:I64 y)(hT:Tab w 7 kevCells)(hL:Tab w 5 lenCells)(he:D10.lastE y n l=0)(hk:k< -4000000):
  Calls Tryo.prog 133 #[.int .i64 y,.agg #[.int .i64 n,.bool l],.int .i64 k] w fun e w'=>e= .returned (.tuple #[.int .i64 0,.agg #[.int .i64 0,.bool false],.int .i64 1])/\Below w.heap.size w w':=by
 have HL:=Lib.hid (fun w hT hL=>heb_Last y n l w hy hT hL)
 rw [he]at HL
 obtain⟨h1,h2,hp⟩:=S15.last_in he
 clear he
 generalize D10.lastV y n l=lv at*
 clear hp
 go_enter Tryo.func133,Tryz.ntmps133
 go_wp2_with fail
 refine settleC (fun W=>CodeAt W w.heap.size n l/\CodeAt W (w.heap.size+1) 0 false/\Below w.heap.size w W) ⟨CodeAt.below (codeAt_alloc _ _ _ _) (ba _ _),codeAt_alloc2 _ _ _ _ _,baa (ba _ _) _⟩ ?_
 rintro W0 ⟨hC0,hR0,hB0⟩
 have hq:=hC0
 obtain⟨c0,c1,cf,cs⟩:=hq
 have hq:=hR0
 obtain⟨r0,r1,rf,rs⟩:=hq
 refine(HL.out _ (Tab.below hT hB0) (Tab.below hL hB0)).mono ?_
 rintro e W1 ⟨rfl,hb1⟩
 have hC1:=CodeAt.below hC0 hb1
 have hR1:=CodeAt.below hR0 hb1
 have hB1:=bt hB0 hb1
 clear c0 c1 cf cs r0 r1 rf rs
 have hq:=hC1
 obtain⟨c0,c1,cf,cs⟩:=hq
 have hq:=hR1
 obtain⟨r0,r1,rf,rs⟩:=hq
 go_wp2_with fail
 refine bodyPost_ret (v:= .tuple #[.int .i64 0,.agg #[.int .i64 0,.bool false],.int .i64 1]) (by simp [results,Tryz.results133,go_sem, *]) rfl ⟨rfl, ?_⟩
 iterate 2 refine Below.setCell ?_ (by first|omega|(simp;done)) _
 exact hB1
theorem shift_Months_high(y n:Int)(l:Bool)(k:Int)(w:World)(hy:I64 y)(hT:Tab w 7 kevCells)(hL:Tab w 5 lenCells)(he:D10.lastE y n l=0)(hk0: -4000000<=k)(hk:4000000<k):
  Calls Tryo.prog 133 #[.int .i64 y,.agg #[.int .i64 n,.bool l],.int .i64 k] w fun e w'=>e= .returned (.tuple #[.int .i64 0,.agg #[.int .i64 0,.bool false],.int .i64 1])/\Below w.heap.size w w':=by
 have HL:=Lib.hid (fun w hT hL=>heb_Last y n l w hy hT hL)
 rw [he]at HL
 obtain⟨h1,h2,hp⟩:=S15.last_in he
 clear he
 generalize D10.lastV y n l=lv at*
 clear hp
 go_enter Tryo.func133,Tryz.ntmps133
 go_wp2_with fail
 refine settleC (fun W=>CodeAt W w.heap.size n l/\CodeAt W (w.heap.size+1) 0 false/\Below w.heap.size w W) ⟨CodeAt.below (codeAt_alloc _ _ _ _) (ba _ _),codeAt_alloc2 _ _ _ _ _,baa (ba _ _) _⟩ ?_
 rintro W0 ⟨hC0,hR0,hB0⟩
 have hq:=hC0
 obtain⟨c0,c1,cf,cs⟩:=hq
 have hq:=hR0
 obtain⟨r0,r1,rf,rs⟩:=hq
 refine(HL.out _ (Tab.below hT hB0) (Tab.below hL hB0)).mono ?_
 rintro e W1 ⟨rfl,hb1⟩
 have hC1:=CodeAt.below hC0 hb1
 have hR1:=CodeAt.below hR0 hb1
 have hB1:=bt hB0 hb1
 clear c0 c1 cf cs r0 r1 rf rs
 have hq:=hC1
 obtain⟨c0,c1,cf,cs⟩:=hq
 have hq:=hR1
 obtain⟨r0,r1,rf,rs⟩:=hq
 go_wp2_with fail
 refine bodyPost_ret (v:= .tuple #[.int .i64 0,.agg #[.int .i64 0,.bool false],.int .i64 1]) (by simp [results,Tryz.results133,go_sem, *]) rfl ⟨rfl, ?_⟩
 iterate 2 refine Below.setCell ?_ (by first|omega|(simp;done)) _
 exact hB1
theorem shift_Months_before(y n:Int)(l:Bool)(k:Int)(w:World)(hy:I64 y)(hT:Tab w 7 kevCells)(hL:Tab w 5 lenCells)(he:D10.lastE y n l=0)(hk0: -4000000<=k)(hk:k<=4000000)(hA:S15.monA y n l k<0):
  Calls Tryo.prog 133 #[.int .i64 y,.agg #[.int .i64 n,.bool l],.int .i64 k] w fun e w'=>e= .returned (.tuple #[.int .i64 0,.agg #[.int .i64 0,.bool false],.int .i64 2])/\Below w.heap.size w w':=by
 have HL:=Lib.hid (fun w hT hL=>heb_Last y n l w hy hT hL)
 rw [he]at HL
 obtain⟨h1,h2,hp⟩:=S15.last_in he
 clear he
 generalize D10.lastV y n l=lv at*
 have hpb:=S15.plV_bd _ _ _ hp
 have hbb:=S15.before_bd y (by omega) (by omega)
 have HLp:=Lib.hid (fun w=>cycle_Leap_ok y w (by omega) (by omega))
 have HPl:=Lib.hid (fun w=>(hp▸code_Place_any (Cal.leap y) n l w:Calls Tryo.prog 191 #[.bool (Cal.leap y),.agg #[.int .i64 n,.bool l]] w fun e w'=>e= .returned (.tuple #[.int .i64 (Cal.plV (Cal.leap y) n l),.bool true])/\Below w.heap.size w w'))
 have HBy:=Lib.hid (fun w=>shift_before y w (by omega) (by omega))
 have HB1:=Lib.hid (fun w=>(S15.before_1▸shift_before 1 w (by omega) (by omega):Calls Tryo.prog 195 #[.int .i64 1] w fun e w'=>e= .returned (.int .i64 0)/\w=w'))
 have HB2:=Lib.hid (fun w=>(S15.before_10000▸shift_before 10000 w (by omega) (by omega):Calls Tryo.prog 195 #[.int .i64 10000] w fun e w'=>e= .returned (.int .i64 123671)/\w=w'))
 clear hp
 unfold S15.monA at hA
 generalize Cal.plV (Cal.leap y) n l=pv at*
 generalize Cal.leap y=lp at*
 generalize Cal.before y=bf at*
 have g1:decide (bf+pv-1+k<0)=true:=by simpa using hA
 go_enter Tryo.func133,Tryz.ntmps133
 go_wp2_with fail
 refine settleC (fun W=>CodeAt W w.heap.size n l/\CodeAt W (w.heap.size+1) 0 false/\Below w.heap.size w W) ⟨CodeAt.below (codeAt_alloc _ _ _ _) (ba _ _),codeAt_alloc2 _ _ _ _ _,baa (ba _ _) _⟩ ?_
 rintro W0 ⟨hC0,hR0,hB0⟩
 have hq:=hC0
 obtain⟨c0,c1,cf,cs⟩:=hq
 have hq:=hR0
 obtain⟨r0,r1,rf,rs⟩:=hq
 refine(HL.out _ (Tab.below hT hB0) (Tab.below hL hB0)).mono ?_
 rintro e W1 ⟨rfl,hb1⟩
 have hC1:=CodeAt.below hC0 hb1
 have hR1:=CodeAt.below hR0 hb1
 have hB1:=bt hB0 hb1
 clear c0 c1 cf cs r0 r1 rf rs
 have hq:=hC1
 obtain⟨c0,c1,cf,cs⟩:=hq
 have hq:=hR1
 obtain⟨r0,r1,rf,rs⟩:=hq
 go_wp2_with fail
 refine(HLp.out _).mono ?_
 rintro e w' ⟨rfl,rfl⟩
 go_wp2_with fail
 refine(HPl.out _).mono ?_
 rintro e W2 ⟨rfl,hb2⟩
 have hC2:=CodeAt.below hC1 hb2
 have hR2:=CodeAt.below hR1 hb2
 have hB2:=bt hB1 hb2
 clear c0 c1 cf cs r0 r1 rf rs
 have hq:=hC2
 obtain⟨c0,c1,cf,cs⟩:=hq
 have hq:=hR2
 obtain⟨r0,r1,rf,rs⟩:=hq
 go_wp2_with fail
 refine(HBy.out _).mono ?_
 rintro e w' ⟨rfl,rfl⟩
 go_wp2_with fail
 refine settle (fun W=>W.cell? ⟨W2.heap.size,0,none⟩=some (.int .i64 (bf+pv-1+k))/\W2.heap.size<W.heap.size/\CodeAt W (w.heap.size+1) 0 false/\Below w.heap.size w W) ⟨by simp [go_sem],by simp,CodeAt.below hR2 (ba _ _),baa hB2 _⟩ ?_
 rintro W3 ⟨a0,az,hR3,hB3⟩
 refine wp_region_class (by kernel_rfl) (by kernel_rfl) (fun hall=> ?_)
 repeat(first|go_big_quiet_skip|(go_big_quiet_want;first|(refine quiet_load1 _ _ _ rfl rfl ?_ ?_ ?_;(focus (intro _;simp;done));(focus (first|assumption|omega|(simp;done)|(simp;omega)));apply Exists.intro;refine⟨?_, ?_⟩;assumption;go_simp;go_big_quiet_on)|(refine quiet_load2 _ _ _ _ rfl rfl ?_ ?_ ?_ ?_;(focus (intro _;simp;done));(focus (intro _;simp;done));(focus (first|assumption|omega|(simp;done)|(simp;omega)));apply Exists.intro;apply Exists.intro;refine⟨?_, ?_, ?_⟩;assumption;assumption;go_simp;go_big_quiet_on)|(refine quiet_load3 _ _ _ _ rfl rfl ?_ ?_ ?_ ?_;(focus (intro _;simp;done));(focus (intro _;simp;done));(focus (first|assumption|omega|(simp;done)|(simp;omega)));apply Exists.intro;apply Exists.intro;apply Exists.intro;refine⟨?_, ?_, ?_, ?_⟩;assumption;assumption;assumption;go_simp;go_big_quiet_on)|(refine quiet_load4 _ _ _ _ rfl rfl ?_ ?_ ?_ ?_;(focus (intro _;simp;done));(focus (intro _;simp;done));(focus (first|assumption|omega|(simp;done)|(simp;omega)));apply Exists.intro;apply Exists.intro;apply Exists.intro;apply Exists.intro;refine⟨?_, ?_, ?_, ?_, ?_⟩;assumption;assumption;assumption;assumption;go_simp;go_big_quiet_on)|(go_big_quiet_op;first|go_big_quiet_on|(apply Exists.intro;refine⟨fun x hx=> ?_, ?_⟩;(first|(with_reducible exact call_same hx (HB1.out x))|(with_reducible exact call_same hx (HB2.out x))|exact call_same hx (HB1.out x)|exact call_same hx (HB2.out x));go_big_quiet_on))))
 refine wpQuiet_nil ?_
 clear hall
 intro x4 hx4
 have a1:=(hx4.cell (p:=⟨W2.heap.size,0,none⟩) az).trans a0
 have az4:=Nat.lt_of_lt_of_le az hx4.size
 have hR4:=CodeAt.below hR3 hx4
 have hB4:=bt hB3 hx4
 clear a0 az c0 c1 cf cs r0 r1 rf rs
 have hq:=hR4
 obtain⟨r0,r1,rf,rs⟩:=hq
 go_wp2_with fail
 refine bodyPost_ret (v:= .tuple #[.int .i64 0,.agg #[.int .i64 0,.bool false],.int .i64 2]) (by simp [results,Tryz.results133,go_sem, *]) rfl ⟨rfl, ?_⟩
 iterate 2 refine Below.setCell ?_ (by first|omega|(simp;done)) _
 exact hB4
theorem shift_Months_beyond(y n:Int)(l:Bool)(k:Int)(w:World)(hy:I64 y)(hT:Tab w 7 kevCells)(hL:Tab w 5 lenCells)(he:D10.lastE y n l=0)(hk0: -4000000<=k)(hk:k<=4000000)(hA0:0<=S15.monA y n l k)(hA:123671<=S15.monA y n l k):
  Calls Tryo.prog 133 #[.int .i64 y,.agg #[.int .i64 n,.bool l],.int .i64 k] w fun e w'=>e= .returned (.tuple #[.int .i64 0,.agg #[.int .i64 0,.bool false],.int .i64 2])/\Below w.heap.size w w':=by
 have HL:=Lib.hid (fun w hT hL=>heb_Last y n l w hy hT hL)
 rw [he]at HL
 obtain⟨h1,h2,hp⟩:=S15.last_in he
 clear he
 generalize D10.lastV y n l=lv at*
 have hpb:=S15.plV_bd _ _ _ hp
 have hbb:=S15.before_bd y (by omega) (by omega)
 have HLp:=Lib.hid (fun w=>cycle_Leap_ok y w (by omega) (by omega))
 have HPl:=Lib.hid (fun w=>(hp▸code_Place_any (Cal.leap y) n l w:Calls Tryo.prog 191 #[.bool (Cal.leap y),.agg #[.int .i64 n,.bool l]] w fun e w'=>e= .returned (.tuple #[.int .i64 (Cal.plV (Cal.leap y) n l),.bool true])/\Below w.heap.size w w'))
 have HBy:=Lib.hid (fun w=>shift_before y w (by omega) (by omega))
 have HB1:=Lib.hid (fun w=>(S15.before_1▸shift_before 1 w (by omega) (by omega):Calls Tryo.prog 195 #[.int .i64 1] w fun e w'=>e= .returned (.int .i64 0)/\w=w'))
 have HB2:=Lib.hid (fun w=>(S15.before_10000▸shift_before 10000 w (by omega) (by omega):Calls Tryo.prog 195 #[.int .i64 10000] w fun e w'=>e= .returned (.int .i64 123671)/\w=w'))
 clear hp
 unfold S15.monA at hA hA0
 generalize Cal.plV (Cal.leap y) n l=pv at*
 generalize Cal.leap y=lp at*
 generalize Cal.before y=bf at*
 have g1:decide (bf+pv-1+k<0)=false:=by simp;omega
 have g2:decide (123671<=bf+pv-1+k)=true:=by simpa using hA
 go_enter Tryo.func133,Tryz.ntmps133
 go_wp2_with fail
 refine settleC (fun W=>CodeAt W w.heap.size n l/\CodeAt W (w.heap.size+1) 0 false/\Below w.heap.size w W) ⟨CodeAt.below (codeAt_alloc _ _ _ _) (ba _ _),codeAt_alloc2 _ _ _ _ _,baa (ba _ _) _⟩ ?_
 rintro W0 ⟨hC0,hR0,hB0⟩
 have hq:=hC0
 obtain⟨c0,c1,cf,cs⟩:=hq
 have hq:=hR0
 obtain⟨r0,r1,rf,rs⟩:=hq
 refine(HL.out _ (Tab.below hT hB0) (Tab.below hL hB0)).mono ?_
 rintro e W1 ⟨rfl,hb1⟩
 have hC1:=CodeAt.below hC0 hb1
 have hR1:=CodeAt.below hR0 hb1
 have hB1:=bt hB0 hb1
 clear c0 c1 cf cs r0 r1 rf rs
 have hq:=hC1
 obtain⟨c0,c1,cf,cs⟩:=hq
 have hq:=hR1
 obtain⟨r0,r1,rf,rs⟩:=hq
 go_wp2_with fail
 refine(HLp.out _).mono ?_
 rintro e w' ⟨rfl,rfl⟩
 go_wp2_with fail
 refine(HPl.out _).mono ?_
 rintro e W2 ⟨rfl,hb2⟩
 have hC2:=CodeAt.below hC1 hb2
 have hR2:=CodeAt.below hR1 hb2
 have hB2:=bt hB1 hb2
 clear c0 c1 cf cs r0 r1 rf rs
 have hq:=hC2
 obtain⟨c0,c1,cf,cs⟩:=hq
 have hq:=hR2
 obtain⟨r0,r1,rf,rs⟩:=hq
 go_wp2_with fail
 refine(HBy.out _).mono ?_
 rintro e w' ⟨rfl,rfl⟩
 go_wp2_with fail
 refine settle (fun W=>W.cell? ⟨W2.heap.size,0,none⟩=some (.int .i64 (bf+pv-1+k))/\W2.heap.size<W.heap.size/\CodeAt W (w.heap.size+1) 0 false/\Below w.heap.size w W) ⟨by simp [go_sem],by simp,CodeAt.below hR2 (ba _ _),baa hB2 _⟩ ?_
 rintro W3 ⟨a0,az,hR3,hB3⟩
 refine wp_region_class (by kernel_rfl) (by kernel_rfl) (fun hall=> ?_)
 repeat(first|go_big_quiet_skip|(go_big_quiet_want;first|(refine quiet_load1 _ _ _ rfl rfl ?_ ?_ ?_;(focus (intro _;simp;done));(focus (first|assumption|omega|(simp;done)|(simp;omega)));apply Exists.intro;refine⟨?_, ?_⟩;assumption;go_simp;go_big_quiet_on)|(refine quiet_load2 _ _ _ _ rfl rfl ?_ ?_ ?_ ?_;(focus (intro _;simp;done));(focus (intro _;simp;done));(focus (first|assumption|omega|(simp;done)|(simp;omega)));apply Exists.intro;apply Exists.intro;refine⟨?_, ?_, ?_⟩;assumption;assumption;go_simp;go_big_quiet_on)|(refine quiet_load3 _ _ _ _ rfl rfl ?_ ?_ ?_ ?_;(focus (intro _;simp;done));(focus (intro _;simp;done));(focus (first|assumption|omega|(simp;done)|(simp;omega)));apply Exists.intro;apply Exists.intro;apply Exists.intro;refine⟨?_, ?_, ?_, ?_⟩;assumption;assumption;assumption;go_simp;go_big_quiet_on)|(refine quiet_load4 _ _ _ _ rfl rfl ?_ ?_ ?_ ?_;(focus (intro _;simp;done));(focus (intro _;simp;done));(focus (first|assumption|omega|(simp;done)|(simp;omega)));apply Exists.intro;apply Exists.intro;apply Exists.intro;apply Exists.intro;refine⟨?_, ?_, ?_, ?_, ?_⟩;assumption;assumption;assumption;assumption;go_simp;go_big_quiet_on)|(go_big_quiet_op;first|go_big_quiet_on|(apply Exists.intro;refine⟨fun x hx=> ?_, ?_⟩;(first|(with_reducible exact call_same hx (HB1.out x))|(with_reducible exact call_same hx (HB2.out x))|exact call_same hx (HB1.out x)|exact call_same hx (HB2.out x));go_big_quiet_on))))
 refine wpQuiet_nil ?_
 clear hall
 intro x4 hx4
 have a1:=(hx4.cell (p:=⟨W2.heap.size,0,none⟩) az).trans a0
 have az4:=Nat.lt_of_lt_of_le az hx4.size
 have hR4:=CodeAt.below hR3 hx4
 have hB4:=bt hB3 hx4
 clear a0 az c0 c1 cf cs r0 r1 rf rs
 have hq:=hR4
 obtain⟨r0,r1,rf,rs⟩:=hq
 go_wp2_with fail
 refine bodyPost_ret (v:= .tuple #[.int .i64 0,.agg #[.int .i64 0,.bool false],.int .i64 2]) (by simp [results,Tryz.results133,go_sem, *]) rfl ⟨rfl, ?_⟩
 iterate 2 refine Below.setCell ?_ (by first|omega|(simp;done)) _
 exact hB4
theorem shift_before'(y:Int)(w:World)(h0:0<=y)(h1:y<=10001):Calls Tryo.prog 195 #[.int .i64 y] w fun e w'=>e= .returned (.int .i64 (Cal.before y))/\w'=w:=(shift_before y w h0 h1).mono fun _ _ h=>⟨h.1,h.2.symm⟩
theorem shift_Months1(d i:Int)(B:Nat)(w:World)(hc:w.cell? ⟨B,0,none⟩=some (.int .i64 d))(h0:0<=i)(h1:i<9998):
  Calls Tryo.prog 196 #[.int .i64 i,.pointer (some ⟨B,0,none⟩)] w fun e w'=>e= .returned (.bool (decide (d<Cal.before (i+2))))/\∃q,w'=w.drewN q:=by
 have H:=Lib.hid (fun w=>shift_before' (i+2) w (by omega) (by omega))
 have e1:IntKind.i64.wrap (1+i)=1+i:=IntWalk.i64_in _ (by omega)
 have e2:IntKind.i64.wrap (1+i+1)=i+2:=by rw [show 1+i+1=i+2 by omega];exact IntWalk.i64_in _ (by omega)
 go_enter Tryo.func196,Tryz.ntmps196
 go_wp2_with fail
 clear h0 h1
 go_quiet ((go_at_call 195;exact Calls.quiet_of_same (H.out _)))
 go_wp2_with fail
 go_ret
 exact⟨rfl,_,rfl⟩
theorem shift_Months_ok(y n:Int)(l:Bool)(k:Int)(w:World)(hy:I64 y)(hT:Tab w 7 kevCells)(hL:Tab w 5 lenCells)(he:D10.lastE y n l=0)(hk0: -4000000<=k)(hk:k<=4000000)(hA0:0<=S15.monA y n l k)(hA1:S15.monA y n l k<123671):
  Calls Tryo.prog 133 #[.int .i64 y,.agg #[.int .i64 n,.bool l],.int .i64 k] w fun e w'=>e= .returned (.tuple #[.int .i64 (S15.mY (S15.monA y n l k)),.agg #[.int .i64 (Cal.ofN (Cal.leap (S15.mY (S15.monA y n l k))) (S15.mM (S15.monA y n l k))),.bool (Cal.ofL (Cal.leap (S15.mY (S15.monA y n l k))) (S15.mM (S15.monA y n l k)))],.int .i64 0])/\Below w.heap.size w w':=by
 have HL:=Lib.hid (fun w hT hL=>heb_Last y n l w hy hT hL)
 rw [he]at HL
 obtain⟨h1,h2,hp⟩:=S15.last_in he
 clear he
 generalize D10.lastV y n l=lv at*
 have hpb:=S15.plV_bd _ _ _ hp
 have hbb:=S15.before_bd y (by omega) (by omega)
 have HLp:=Lib.hid (fun w=>cycle_Leap_ok y w (by omega) (by omega))
 have HPl:=Lib.hid (fun w=>(hp▸code_Place_any (Cal.leap y) n l w:Calls Tryo.prog 191 #[.bool (Cal.leap y),.agg #[.int .i64 n,.bool l]] w fun e w'=>e= .returned (.tuple #[.int .i64 (Cal.plV (Cal.leap y) n l),.bool true])/\Below w.heap.size w w'))
 have HBy:=Lib.hid (fun w=>shift_before y w (by omega) (by omega))
 have HB1:=Lib.hid (fun w=>(S15.before_1▸shift_before 1 w (by omega) (by omega):Calls Tryo.prog 195 #[.int .i64 1] w fun e w'=>e= .returned (.int .i64 0)/\w=w'))
 have HB2:=Lib.hid (fun w=>(S15.before_10000▸shift_before 10000 w (by omega) (by omega):Calls Tryo.prog 195 #[.int .i64 10000] w fun e w'=>e= .returned (.int .i64 123671)/\w=w'))
 clear hp
 unfold S15.monA at*
 generalize Cal.plV (Cal.leap y) n l=pv at*
 generalize Cal.leap y=lp at*
 generalize Cal.before y=bf at*
 obtain⟨t1,t2⟩:=S15.mY_in _ hA0 hA1
 have tm:=S15.mM_in (bf+pv-1+k)
 have tc:=S15.mY_count _ hA0 hA1
 have g1:decide (bf+pv-1+k<0)=false:=by simp;omega
 have g2:decide (123671<=bf+pv-1+k)=false:=by simp;omega
 have HBm:=Lib.hid (fun w=>shift_before (S15.mY (bf+pv-1+k)) w (by omega) (by omega))
 have HLm:=Lib.hid (fun w=>cycle_Leap_ok (S15.mY (bf+pv-1+k)) w (by omega) (by omega))
 have hmM:S15.mM (bf+pv-1+k)=bf+pv-1+k-Cal.before (S15.mY (bf+pv-1+k))+1:=rfl
 have hbm:=S15.before_bd (S15.mY (bf+pv-1+k)) (by omega) (by omega)
 have tmb:S15.mM (bf+pv-1+k)<=13:=by have:=tm.2;unfold Cal.most at this;split at this <;> omega
 have HOf:=Lib.hid (fun w=>code_Of_any (Cal.leap (S15.mY (bf+pv-1+k))) (S15.mM (bf+pv-1+k)) w (by omega))
 have HQ:∀ (B:Nat) (W:World),W.cell? ⟨B,0,none⟩=some (.int .i64 (bf+pv-1+k))->B<W.heap.size->Calls Tryo.prog 145 #[.int .i64 9998,.func (.func 196) #[] #[.pointer (some ⟨B,0,none⟩)]] W fun e w'=>e= .returned (.int .i64 (S15.mY (bf+pv-1+k)-1))/\Below W.heap.size W w':=by
  intro B W hW hs
  have hh:=Any.sort_Search search 196 #[.pointer (some ⟨B,0,none⟩)] 9998 (fun i=>decide (bf+pv-1+k<Cal.before ((i:Int)+2))) W (enters_of Tryo.func196 (by kernel_rfl) rfl) (by omega)
   (fun m os i hi=>(shift_Months1 (bf+pv-1+k) i B _ (cell_grown hs hW m os) (by omega) (by omega)).mono fun e w' h=>⟨h.1,by obtain⟨q,hq⟩:=h.2;exact⟨q,#[],by rw [hq,grow_empty]⟩⟩)
   (fun a b hab hb hp=>by
    have hp':=of_decide_eq_true hp
    have:=S15.before_mono ((a:Int)+2) ((b:Int)+2) (by omega)
    exact decide_eq_true (by omega))
  rw [tc]at hh
  exact hh.mono fun e w' h=>⟨h.1,by obtain⟨q,os,rfl⟩:=h.2;exact below_grown_sl _ W q os (Nat.le_refl _)⟩
 have HR:=Lib.hid HQ
 clear HQ tc tm
 generalize hAe:bf+pv-1+k=A at*
 generalize Cal.ofN (Cal.leap (S15.mY A)) (S15.mM A)=rn at*
 generalize Cal.ofL (Cal.leap (S15.mY A)) (S15.mM A)=rl at*
 generalize Cal.ofOk (Cal.leap (S15.mY A)) (S15.mM A)=ro at*
 generalize S15.mM A=mm at*
 generalize Cal.leap (S15.mY A)=lp2 at*
 generalize Cal.before (S15.mY A)=bm at*
 generalize S15.mY A=ry at*
 have hAh:=Lib.hid hAe
 have hmh:=Lib.hid hmM
 clear hAe hmM
 go_enter Tryo.func133,Tryz.ntmps133
 go_wp2_with fail
 refine settleC (fun W=>CodeAt W w.heap.size n l/\CodeAt W (w.heap.size+1) 0 false/\Below w.heap.size w W) ⟨CodeAt.below (codeAt_alloc _ _ _ _) (ba _ _),codeAt_alloc2 _ _ _ _ _,baa (ba _ _) _⟩ ?_
 rintro W0 ⟨hC0,hR0,hB0⟩
 have hq:=hC0
 obtain⟨c0,c1,cf,cs⟩:=hq
 have hq:=hR0
 obtain⟨r0,r1,rf,rs⟩:=hq
 refine(HL.out _ (Tab.below hT hB0) (Tab.below hL hB0)).mono ?_
 rintro e W1 ⟨rfl,hb1⟩
 have hC1:=CodeAt.below hC0 hb1
 have hR1:=CodeAt.below hR0 hb1
 have hB1:=bt hB0 hb1
 clear c0 c1 cf cs r0 r1 rf rs
 have hq:=hC1
 obtain⟨c0,c1,cf,cs⟩:=hq
 have hq:=hR1
 obtain⟨r0,r1,rf,rs⟩:=hq
 go_wp2_with fail
 refine(HLp.out _).mono ?_
 rintro e w' ⟨rfl,rfl⟩
 go_wp2_with fail
 refine(HPl.out _).mono ?_
 rintro e W2 ⟨rfl,hb2⟩
 have hC2:=CodeAt.below hC1 hb2
 have hR2:=CodeAt.below hR1 hb2
 have hB2:=bt hB1 hb2
 clear c0 c1 cf cs r0 r1 rf rs
 have hq:=hC2
 obtain⟨c0,c1,cf,cs⟩:=hq
 have hq:=hR2
 obtain⟨r0,r1,rf,rs⟩:=hq
 go_wp2_with fail
 refine(HBy.out _).mono ?_
 rintro e w' ⟨rfl,rfl⟩
 go_wp2_with fail
 refine settle (fun W=>W.cell? ⟨W2.heap.size,0,none⟩=some (.int .i64 (A))/\W2.heap.size<W.heap.size/\CodeAt W (w.heap.size+1) 0 false/\Below w.heap.size w W) ⟨by rw [←hAh.out];simp [go_sem],by simp,CodeAt.below hR2 (ba _ _),baa hB2 _⟩ ?_
 rintro W3 ⟨a0,az,hR3,hB3⟩
 refine wp_region_class (by kernel_rfl) (by kernel_rfl) (fun hall=> ?_)
 repeat(first|go_big_quiet_skip|(go_big_quiet_want;first|(refine quiet_load1 _ _ _ rfl rfl ?_ ?_ ?_;(focus (intro _;simp;done));(focus (first|assumption|omega|(simp;done)|(simp;omega)));apply Exists.intro;refine⟨?_, ?_⟩;assumption;go_simp;go_big_quiet_on)|(refine quiet_load2 _ _ _ _ rfl rfl ?_ ?_ ?_ ?_;(focus (intro _;simp;done));(focus (intro _;simp;done));(focus (first|assumption|omega|(simp;done)|(simp;omega)));apply Exists.intro;apply Exists.intro;refine⟨?_, ?_, ?_⟩;assumption;assumption;go_simp;go_big_quiet_on)|(refine quiet_load3 _ _ _ _ rfl rfl ?_ ?_ ?_ ?_;(focus (intro _;simp;done));(focus (intro _;simp;done));(focus (first|assumption|omega|(simp;done)|(simp;omega)));apply Exists.intro;apply Exists.intro;apply Exists.intro;refine⟨?_, ?_, ?_, ?_⟩;assumption;assumption;assumption;go_simp;go_big_quiet_on)|(refine quiet_load4 _ _ _ _ rfl rfl ?_ ?_ ?_ ?_;(focus (intro _;simp;done));(focus (intro _;simp;done));(focus (first|assumption|omega|(simp;done)|(simp;omega)));apply Exists.intro;apply Exists.intro;apply Exists.intro;apply Exists.intro;refine⟨?_, ?_, ?_, ?_, ?_⟩;assumption;assumption;assumption;assumption;go_simp;go_big_quiet_on)|(go_big_quiet_op;first|go_big_quiet_on|(apply Exists.intro;refine⟨fun x hx=> ?_, ?_⟩;(first|(with_reducible exact call_same hx (HB1.out x))|(with_reducible exact call_same hx (HB2.out x))|exact call_same hx (HB1.out x)|exact call_same hx (HB2.out x));go_big_quiet_on))))
 refine wpQuiet_nil ?_
 clear hall
 intro x4 hx4
 have a1:=(hx4.cell (p:=⟨W2.heap.size,0,none⟩) az).trans a0
 have az4:=Nat.lt_of_lt_of_le az hx4.size
 have hR4:=CodeAt.below hR3 hx4
 have hB4:=bt hB3 hx4
 clear a0 az c0 c1 cf cs r0 r1 rf rs
 have hq:=hR4
 obtain⟨r0,r1,rf,rs⟩:=hq
 go_wp2_with fail
 refine(HR.out _ _ a1 az4).mono ?_
 rintro e W5 ⟨rfl,hb5⟩
 have a2:=(hb5.cell (p:=⟨W2.heap.size,0,none⟩) az4).trans a1
 have az5:=Nat.lt_of_lt_of_le az4 hb5.size
 have hR5:=CodeAt.below hR4 hb5
 have hB5:=bt hB4 hb5
 clear a1 az4 r0 r1 rf rs
 have hq:=hR5
 obtain⟨r0,r1,rf,rs⟩:=hq
 have ey:1+(ry-1)=ry:=by omega
 go_wp2_with fail
 refine(HLm.out _).mono ?_
 rintro e w' ⟨rfl,rfl⟩
 go_wp2_with fail
 have w1:IntKind.i64.wrap (A-bm)=A-bm:=IntWalk.i64_in _ (by omega)
 have w2:IntKind.i64.wrap (A-bm+1)=mm:=by rw [hmh.out];exact IntWalk.i64_in _ (by have:=hmh.out;omega)
 clear ey
 go_region_with (first|(go_at_call 195;refine(HBm.out _).mono ?_;rintro e w6 ⟨rfl,rfl⟩)|(go_at_call 73;refine(HOf.out _).mono ?_;rintro e W7 ⟨rfl,hb7⟩;have hW7:=bt (show Below W5.heap.size W5 _ by repeat(first|(with_reducible exact Below.refl _ _)|(with_reducible refine bdrew ?_)|(with_reducible refine baa ?_ _))) hb7;have hR7:=CodeAt.below hR5 hW7;have hB7:=bt hB5 hW7;obtain⟨hc7,hf7⟩:=bcell hb7;have hz7:=hb7.size;have hq:=hR7;obtain⟨z0,z1,zf,zs⟩:=hq;try simp at hz7))
 all_goals go_wp2_with fail
 all_goals go_region
 all_goals go_wp2_with fail
 all_goals refine bodyPost_ret (v:= .tuple #[.int .i64 ry,.agg #[.int .i64 rn,.bool rl],.int .i64 0]) (by simp [results,Tryz.results133,go_sem, *]) rfl ⟨rfl, ?_⟩
 all_goals(repeat(first|(with_reducible exact Below.refl _ _)|(with_reducible assumption)|(with_reducible refine bdrew ?_)|(with_reducible refine baa ?_ _)|(with_reducible refine bs ?_ (by first|exact Nat.le_refl _|omega|(simp;done)|(simp;omega)) _)))
end Go.Proofs.YthnjjcoahdhmnaaGreatDoor
end
section
namespace Go.Proofs.YthnjjcoahdhmnaaGreatDoor
open Go.ChangeShapes Go.WideShapes Go.ChangeAt Go.RowKit Go.Sort
namespace S15
end S15
theorem shift_Months(y n:Int)(l:Bool)(k:Int)(w:World)(hy:I64 y)(hT:Tab w 7 kevCells)(hL:Tab w 5 lenCells):
  Calls Tryo.prog 133 #[.int .i64 y,.agg #[.int .i64 n,.bool l],.int .i64 k] w fun e w'=>e= .returned (.tuple #[.int .i64 (S15.monY y n l k),.agg #[.int .i64 (S15.monN y n l k),.bool (S15.monL y n l k)],.int .i64 (S15.monE y n l k)])/\Below w.heap.size w w':=by
 unfold S15.monY S15.monN S15.monL
 by_cases he:D10.lastE y n l=0
 ·by_cases c1:k< -4000000∨4000000<k
  ·rw [show S15.monE y n l k=1 by simp [S15.monE,he,c1]]
   by_cases c:k< -4000000
   ·exact shift_Months_low y n l k w hy hT hL he c
   ·exact shift_Months_high y n l k w hy hT hL he (by omega) (by omega)
  ·by_cases c2:S15.monA y n l k<0∨123671<=S15.monA y n l k
   ·rw [show S15.monE y n l k=2 by simp [S15.monE,he,c1,c2]]
    by_cases c:S15.monA y n l k<0
    ·exact shift_Months_before y n l k w hy hT hL he (by omega) (by omega) c
    ·exact shift_Months_beyond y n l k w hy hT hL he (by omega) (by omega) (by omega) (by omega)
   ·rw [show S15.monE y n l k=0 by simp [S15.monE,he,c1,c2],if_pos rfl,if_pos rfl,if_pos rfl]
    exact shift_Months_ok y n l k w hy hT hL he (by omega) (by omega) (by omega) (by omega)
 ·have e:S15.monE y n l k=D10.lastE y n l:=by simp [S15.monE,he]
  rw [e,if_neg he,if_neg he,if_neg he]
  exact shift_Months_last y n l k w hy hT hL he
end Go.Proofs.YthnjjcoahdhmnaaGreatDoor
end
section
namespace Go.Proofs.YthnjjcoahdhmnaaGreatDoor
open Go.ChangeShapes Go.WideShapes Go.ChangeAt Go.RowKit
namespace S15
theorem codes_ends:∀lp:Bool,Cal.ofN lp 1=1/\Cal.ofL lp 1=false:=by decide
theorem codes_last:∀lp:Bool,Cal.ofN lp (Cal.most lp)=12:=by decide
theorem last_0{y n:Int}{l:Bool}(h1:1<=y)(h2:y<=9999)(hp:Cal.plOk (Cal.leap y) n l=true):D10.lastE y n l=0:=by simp [D10.lastE,Cal.yearIn_yes y h1 h2,hp]
theorem mon_ok{y n k:Int}{l:Bool}(h:monE y n l k=0):D10.lastE y n l=0/\ -4000000<=k/\k<=4000000/\0<=monA y n l k/\monA y n l k<123671:=by
 unfold monE at h
 split at h
 ·rename_i he
  split at h
  ·omega
  ·split at h
   ·omega
   ·exact⟨he,by omega,by omega,by omega,by omega⟩
 ·rename_i he;exact absurd h he
theorem mon_0{y n k:Int}{l:Bool}(he:D10.lastE y n l=0)(h1: -4000000<=k)(h2:k<=4000000)(h3:0<=monA y n l k)(h4:monA y n l k<123671):monE y n l k=0:=by
 unfold monE;rw [if_pos he,if_neg (by omega),if_neg (by omega)]
theorem mon_there{y n k:Int}{l:Bool}(h:monE y n l k=0):D10.lastE (monY y n l k) (monN y n l k) (monL y n l k)=0/\1<=monY y n l k/\monY y n l k<=9999/\∀b,monA (monY y n l k) (monN y n l k) (monL y n l k) b=monA y n l (k+b):=by
 obtain⟨he,k1,k2,a1,a2⟩:=mon_ok h
 obtain⟨y1,y2⟩:=mY_in _ a1 a2
 obtain⟨m1,m2⟩:=mM_in (monA y n l k)
 obtain⟨_,p1,p2⟩:=D10.of_place _ _ m1 m2
 have e1:monY y n l k=mY (monA y n l k):=by unfold monY;rw [if_pos h]
 have e2:monN y n l k=Cal.ofN (Cal.leap (mY (monA y n l k))) (mM (monA y n l k)):=by unfold monN;rw [if_pos h]
 have e3:monL y n l k=Cal.ofL (Cal.leap (mY (monA y n l k))) (mM (monA y n l k)):=by unfold monL;rw [if_pos h]
 rw [e1,e2,e3]
 refine⟨last_0 y1 y2 p1,y1,y2,fun b=> ?_⟩
 have:monA y n l (k+b)=monA y n l k+b:=by unfold monA;omega
 rw [this]
 generalize monA y n l k=A at*
 unfold monA
 rw [p2]
 unfold mM;omega
theorem mon_step{y n k:Int}{l:Bool}(he:D10.lastE y n l=0)(k1: -4000000<=k)(k2:k<=4000000)(m z:Int)(z1:1<=z)(z2:z<=9999)(m1:1<=m)(m2:m<=Cal.most (Cal.leap z))(e:monA y n l k=Cal.before z+m-1):
  monE y n l k=0/\monY y n l k=z/\monN y n l k=Cal.ofN (Cal.leap z) m/\monL y n l k=Cal.ofL (Cal.leap z) m:=by
 have hn:=before_next z
 have a1:=before_mono 1 z z1
 have a2:=before_mono (z+1) 10000 (by omega)
 rw [before_1]at a1
 rw [before_10000]at a2
 have h:=mon_0 he k1 k2 (by omega) (by omega)
 have hy:mY (monA y n l k)=z:=mY_one _ _ (by omega) (by omega)
 have hm:mM (monA y n l k)=m:=by unfold mM;rw [hy];omega
 exact⟨h,by unfold monY;rw [if_pos h,hy],by unfold monN;rw [if_pos h,hy,hm],by unfold monL;rw [if_pos h,hy,hm]⟩
theorem mon_zero{y n:Int}{l:Bool}(he:D10.lastE y n l=0):monE y n l 0=0/\monY y n l 0=y/\monN y n l 0=n/\monL y n l 0=l:=by
 obtain⟨h1,h2,hp⟩:=last_in he
 obtain⟨p1,p2,p3,p4⟩:=D10.place_in _ _ _ hp
 have:=mon_step he (k:=0) (by omega) (by omega) _ y h1 h2 p1 p2 (by unfold monA;omega)
 rwa [p3,p4]at this
end S15
end Go.Proofs.YthnjjcoahdhmnaaGreatDoor
end
