import Derived.Test.YthpipedifekmpaaGreatDoorJMO
import Derived.Test.YthpipedifekmpaaGreatDoorJLC
import Derived.Test.YthpipedifekmpaaGreatDoorJDates
import Derived.LoopTactic
set_option maxHeartbeats 8000000
set_option maxRecDepth 100000
set_option linter.unusedVariables false
section
namespace Go.Proofs.YthpipedifekmpaaGreatDoor
open Go.ChangeShapes Go.WideShapes Go.ChangeAt Go.RowKit
namespace Gr
def gregCells:List Value:= [31,28,31,30,31,30,31,31,30,31,30,31].map (Value.int .i64)
def leap(y:Int):Bool:=decide (y % 4=0)&&(!decide (y % 100=0)||decide (y % 400=0))
def days(y m:Int):Int:=if decide (1<=m)&&decide (m<=12)then(if m=2/\leap y=true then 29 else([31,28,31,30,31,30,31,31,30,31,30,31]:List Int).getD (m-1).toNat 0)else 0
def ahead(y:Int):Int:=365*(y-1)+(y-1) / 4-(y-1) / 100+(y-1) / 400
theorem tmod_zero(y k:Int):(y.tmod k==0)=decide (y % k=0):=by
 rw [Bool.eq_iff_iff]
 simp only [beq_iff_eq,decide_eq_true_eq]
 exact⟨fun h=>Int.emod_eq_zero_of_dvd (Int.dvd_of_tmod_eq_zero h),fun h=>Int.tmod_eq_zero_of_dvd (Int.dvd_of_emod_eq_zero h)⟩
theorem tmod_ne(y k:Int):(y.tmod k !=0)= !decide (y % k=0):=by rw [bne,tmod_zero]
end Gr
theorem greg_Leap(y:Int)(w:World)(hy:I64 y):Calls Tryo.prog 56 #[.int .i64 y] w fun e w'=>e= .returned (.bool (Gr.leap y))/\w=w':=by
 have t1:=Gr.tmod_zero y 4
 have t2:=Gr.tmod_ne y 100
 have t3:=Gr.tmod_zero y 400
 unfold Gr.leap
 generalize decide (y % 4=0)=b1 at*
 generalize decide (y % 100=0)=b2 at*
 generalize decide (y % 400=0)=b3 at*
 cases b1 <;> cases b2 <;> cases b3
 all_goals
  go_enter Tryo.func56,Tryz.ntmps56
  go_wp2_with fail
  go_ret
  first
   |exact⟨rfl,rfl⟩
   |(refine⟨?_,rfl⟩;simp [*])
theorem greg_divide(a b:Int)(w:World)(ha:I64 a)(hb:I64 b)(h:0<b):Calls Tryo.prog 55 #[.int .i64 a,.int .i64 b] w fun e w'=>e= .returned (.tuple #[.int .i64 (a / b),.int .i64 (a % b)])/\w=w':=by
 have h1:=Lib.hid (fun w=>exact_Div_pos a b w ha hb h)
 have h2:=Lib.hid (fun w=>exact_Mod_pos a b w ha hb h)
 generalize a / b=q at*
 generalize a % b=r at*
 go_enter Tryo.func55,Tryz.ntmps55
 go_wp2_with fail
 refine(h1.out _).mono ?_
 rintro e w' ⟨rfl,rfl⟩
 go_wp2_with fail
 refine(h2.out _).mono ?_
 rintro e w' ⟨rfl,rfl⟩
 go_wp2_with fail
 go_ret2
 exact⟨rfl,rfl⟩
theorem greg_Days_no(y m:Int)(w:World)(hG:Tab w 2 Gr.gregCells)(h:m<1∨12<m):Calls Tryo.prog 31 #[.int .i64 y,.int .i64 m] w fun e w'=>e= .returned (.int .i64 0)/\Below w.heap.size w w':=by
 by_cases h1:m<1
 ·have h2:¬ 12<m:=by omega
  go_enter Tryo.func31,Tryz.ntmps31
  go_wp2_with fail
  go_ret
  exact⟨rfl,Below.refl _ _⟩
 ·have h2:12<m:=by omega
  go_enter Tryo.func31,Tryz.ntmps31
  go_wp2_with fail
  go_ret
  exact⟨rfl,Below.refl _ _⟩
theorem greg_Days_1(y:Int)(w:World)(hG:Tab w 2 Gr.gregCells):Calls Tryo.prog 31 #[.int .i64 y,.int .i64 1] w fun e w'=>e= .returned (.int .i64 31)/\Below w.heap.size w w':=by
 have hc:w.cell? ⟨2,0,none⟩=some (.int .i64 31):=by rw [hG.cell];rfl
 go_enter Tryo.func31,Tryz.ntmps31
 go_wp2_with fail
 go_ret
 exact⟨rfl,by first|exact Below.refl _ _|exact ba _ _⟩
theorem greg_Days_2(y:Int)(w:World)(hG:Tab w 2 Gr.gregCells)(hy:I64 y):Calls Tryo.prog 31 #[.int .i64 y,.int .i64 2] w fun e w'=>e= .returned (.int .i64 (if Gr.leap y then 29 else 28))/\Below w.heap.size w w':=by
 have hl:=Lib.hid (fun w=>greg_Leap y w hy)
 have hc:w.cell? ⟨2,1,none⟩=some (.int .i64 28):=by rw [hG.cell];rfl
 generalize Gr.leap y=b at*
 cases b
 ·simp only [Bool.false_eq_true,if_false]
  go_enter Tryo.func31,Tryz.ntmps31
  go_wp2_with fail
  refine(hl.out _).mono ?_
  rintro e w' ⟨rfl,rfl⟩
  go_wp2_with fail
  go_ret
  exact⟨rfl,by first|exact Below.refl _ _|exact ba _ _⟩
 ·simp only [if_true]
  go_enter Tryo.func31,Tryz.ntmps31
  go_wp2_with fail
  refine(hl.out _).mono ?_
  rintro e w' ⟨rfl,rfl⟩
  go_wp2_with fail
  go_ret
  exact⟨rfl,by first|exact Below.refl _ _|exact ba _ _⟩
theorem greg_Days_3(y:Int)(w:World)(hG:Tab w 2 Gr.gregCells):Calls Tryo.prog 31 #[.int .i64 y,.int .i64 3] w fun e w'=>e= .returned (.int .i64 31)/\Below w.heap.size w w':=by
 have hc:w.cell? ⟨2,2,none⟩=some (.int .i64 31):=by rw [hG.cell];rfl
 go_enter Tryo.func31,Tryz.ntmps31
 go_wp2_with fail
 go_ret
 exact⟨rfl,by first|exact Below.refl _ _|exact ba _ _⟩
theorem greg_Days_4(y:Int)(w:World)(hG:Tab w 2 Gr.gregCells):Calls Tryo.prog 31 #[.int .i64 y,.int .i64 4] w fun e w'=>e= .returned (.int .i64 30)/\Below w.heap.size w w':=by
 have hc:w.cell? ⟨2,3,none⟩=some (.int .i64 30):=by rw [hG.cell];rfl
 go_enter Tryo.func31,Tryz.ntmps31
 go_wp2_with fail
 go_ret
 exact⟨rfl,by first|exact Below.refl _ _|exact ba _ _⟩
theorem greg_Days_5(y:Int)(w:World)(hG:Tab w 2 Gr.gregCells):Calls Tryo.prog 31 #[.int .i64 y,.int .i64 5] w fun e w'=>e= .returned (.int .i64 31)/\Below w.heap.size w w':=by
 have hc:w.cell? ⟨2,4,none⟩=some (.int .i64 31):=by rw [hG.cell];rfl
 go_enter Tryo.func31,Tryz.ntmps31
 go_wp2_with fail
 go_ret
 exact⟨rfl,by first|exact Below.refl _ _|exact ba _ _⟩
theorem greg_Days_6(y:Int)(w:World)(hG:Tab w 2 Gr.gregCells):Calls Tryo.prog 31 #[.int .i64 y,.int .i64 6] w fun e w'=>e= .returned (.int .i64 30)/\Below w.heap.size w w':=by
 have hc:w.cell? ⟨2,5,none⟩=some (.int .i64 30):=by rw [hG.cell];rfl
 go_enter Tryo.func31,Tryz.ntmps31
 go_wp2_with fail
 go_ret
 exact⟨rfl,by first|exact Below.refl _ _|exact ba _ _⟩
theorem greg_Days_7(y:Int)(w:World)(hG:Tab w 2 Gr.gregCells):Calls Tryo.prog 31 #[.int .i64 y,.int .i64 7] w fun e w'=>e= .returned (.int .i64 31)/\Below w.heap.size w w':=by
 have hc:w.cell? ⟨2,6,none⟩=some (.int .i64 31):=by rw [hG.cell];rfl
 go_enter Tryo.func31,Tryz.ntmps31
 go_wp2_with fail
 go_ret
 exact⟨rfl,by first|exact Below.refl _ _|exact ba _ _⟩
theorem greg_Days_8(y:Int)(w:World)(hG:Tab w 2 Gr.gregCells):Calls Tryo.prog 31 #[.int .i64 y,.int .i64 8] w fun e w'=>e= .returned (.int .i64 31)/\Below w.heap.size w w':=by
 have hc:w.cell? ⟨2,7,none⟩=some (.int .i64 31):=by rw [hG.cell];rfl
 go_enter Tryo.func31,Tryz.ntmps31
 go_wp2_with fail
 go_ret
 exact⟨rfl,by first|exact Below.refl _ _|exact ba _ _⟩
theorem greg_Days_9(y:Int)(w:World)(hG:Tab w 2 Gr.gregCells):Calls Tryo.prog 31 #[.int .i64 y,.int .i64 9] w fun e w'=>e= .returned (.int .i64 30)/\Below w.heap.size w w':=by
 have hc:w.cell? ⟨2,8,none⟩=some (.int .i64 30):=by rw [hG.cell];rfl
 go_enter Tryo.func31,Tryz.ntmps31
 go_wp2_with fail
 go_ret
 exact⟨rfl,by first|exact Below.refl _ _|exact ba _ _⟩
theorem greg_Days_10(y:Int)(w:World)(hG:Tab w 2 Gr.gregCells):Calls Tryo.prog 31 #[.int .i64 y,.int .i64 10] w fun e w'=>e= .returned (.int .i64 31)/\Below w.heap.size w w':=by
 have hc:w.cell? ⟨2,9,none⟩=some (.int .i64 31):=by rw [hG.cell];rfl
 go_enter Tryo.func31,Tryz.ntmps31
 go_wp2_with fail
 go_ret
 exact⟨rfl,by first|exact Below.refl _ _|exact ba _ _⟩
theorem greg_Days_11(y:Int)(w:World)(hG:Tab w 2 Gr.gregCells):Calls Tryo.prog 31 #[.int .i64 y,.int .i64 11] w fun e w'=>e= .returned (.int .i64 30)/\Below w.heap.size w w':=by
 have hc:w.cell? ⟨2,10,none⟩=some (.int .i64 30):=by rw [hG.cell];rfl
 go_enter Tryo.func31,Tryz.ntmps31
 go_wp2_with fail
 go_ret
 exact⟨rfl,by first|exact Below.refl _ _|exact ba _ _⟩
theorem greg_Days_12(y:Int)(w:World)(hG:Tab w 2 Gr.gregCells):Calls Tryo.prog 31 #[.int .i64 y,.int .i64 12] w fun e w'=>e= .returned (.int .i64 31)/\Below w.heap.size w w':=by
 have hc:w.cell? ⟨2,11,none⟩=some (.int .i64 31):=by rw [hG.cell];rfl
 go_enter Tryo.func31,Tryz.ntmps31
 go_wp2_with fail
 go_ret
 exact⟨rfl,by first|exact Below.refl _ _|exact ba _ _⟩
end Go.Proofs.YthpipedifekmpaaGreatDoor
end
section
namespace Go.Proofs.YthpipedifekmpaaGreatDoor
open Go.ChangeShapes Go.WideShapes Go.ChangeAt Go.RowKit
namespace Gr
def long(y:Int):Int:=if leap y then 366 else 365
def h100(r:Int):Int:=min (r / 36524) 3
def r2(r:Int):Int:=r-h100 r*36524
def r3(r:Int):Int:=r2 r-r2 r / 1461*1461
def h1(r:Int):Int:=min (r3 r / 365) 3
def yearV(s:Int):Int:=400*(s / 146097)+100*h100 (s % 146097)+4*(r2 (s % 146097) / 1461)+h1 (s % 146097)+1
def leftV(s:Int):Int:=r3 (s % 146097)-h1 (s % 146097)*365
theorem year_spec(s:Int):ahead (yearV s)+leftV s=s/\0<=leftV s/\leftV s<long (yearV s):=by
 have e:s=146097*(s / 146097)+s % 146097:=by omega
 have b0:0<=s % 146097:=by omega
 have b1:s % 146097<146097:=by omega
 unfold yearV leftV
 generalize s / 146097=q at*
 generalize s % 146097=r at*
 have ha:h100 r=min (r / 36524) 3:=rfl
 have a0:0<=h100 r/\h100 r<=3:=by omega
 have a1:0<=r2 r/\r2 r<=36524/\(h100 r<=2->r2 r<=36523):=by unfold r2;omega
 have er:r=h100 r*36524+r2 r:=by unfold r2;omega
 have c0:0<=r2 r / 1461/\r2 r / 1461<=24:=by omega
 have c1:r2 r=r2 r / 1461*1461+r3 r:=by unfold r3;omega
 have c2:0<=r3 r/\r3 r<=1460:=by unfold r3;omega
 have hd:h1 r=min (r3 r / 365) 3:=rfl
 have d0:0<=h1 r/\h1 r<=3:=by omega
 have c3:r2 r / 1461=24->h100 r<=2->r3 r<=1459:=by omega
 generalize r2 r / 1461=b at*
 generalize h100 r=a at*
 generalize h1 r=c at*
 generalize r2 r=x2 at*
 generalize r3 r=x3 at*
 have f1:(400*q+100*a+4*b+c+1-1) / 4=100*q+25*a+b:=by omega
 have f2:(400*q+100*a+4*b+c+1-1) / 100=4*q+a:=by omega
 have f3:(400*q+100*a+4*b+c+1-1) / 400=q:=by omega
 refine⟨?_,by omega, ?_⟩
 ·unfold ahead;rw [f1,f2,f3];omega
 ·unfold long leap
  have g1:(400*q+100*a+4*b+c+1) % 4=(c+1) % 4:=by omega
  have g2:(400*q+100*a+4*b+c+1) % 100=(4*b+c+1) % 100:=by omega
  have g3:(400*q+100*a+4*b+c+1) % 400=(100*a+4*b+c+1) % 400:=by omega
  rw [g1,g2,g3]
  by_cases k1:c=3
  ·subst k1
   by_cases k2:b=24
   ·subst k2
    by_cases k3:a=3
    ·subst k3
     simp;omega
    ·simp;omega
   ·have:¬ (4*b+3+1) % 100=0:=by omega
    simp [this];omega
  ·have:¬ (c+1) % 4=0:=by omega
   simp [this];omega
theorem year_bd(s:Int)(h1: -1400000<=s)(h2:s<=2300000): -5000<=yearV s/\yearV s<=8000/\0<=leftV s/\leftV s<=365:=by
 obtain⟨e,b,c⟩:=year_spec s
 have:long (yearV s)<=366:=by unfold long;split <;> omega
 unfold ahead at e
 omega
end Gr
theorem greg_Days(y m:Int)(w:World)(hG:Tab w 2 Gr.gregCells)(hy:I64 y):Calls Tryo.prog 31 #[.int .i64 y,.int .i64 m] w fun e w'=>e= .returned (.int .i64 (Gr.days y m))/\Below w.heap.size w w':=by
 by_cases h:m<1∨12<m
 ·rw [show Gr.days y m=0 by unfold Gr.days;rw [if_neg];simp;omega]
  exact greg_Days_no y m w hG h
 ·rcases(show m=1∨m=2∨m=3∨m=4∨m=5∨m=6∨m=7∨m=8∨m=9∨m=10∨m=11∨m=12 by omega)with rfl|rfl|rfl|rfl|rfl|rfl|rfl|rfl|rfl|rfl|rfl|rfl
  ·exact greg_Days_1 y w hG
  ·rw [show Gr.days y 2=if Gr.leap y then 29 else 28 by cases h:Gr.leap y <;> simp [Gr.days,h]]
   exact greg_Days_2 y w hG hy
  ·exact greg_Days_3 y w hG
  ·exact greg_Days_4 y w hG
  ·exact greg_Days_5 y w hG
  ·exact greg_Days_6 y w hG
  ·exact greg_Days_7 y w hG
  ·exact greg_Days_8 y w hG
  ·exact greg_Days_9 y w hG
  ·exact greg_Days_10 y w hG
  ·exact greg_Days_11 y w hG
  ·exact greg_Days_12 y w hG
theorem greg_year(s:Int)(w:World)(b1: -1400000<=s)(b2:s<=2300000):Calls Tryo.prog 30 #[.int .i64 s] w fun e w'=>e= .returned (.tuple #[.int .i64 (Gr.yearV s),.int .i64 (Gr.leftV s)])/\w=w':=by
 have d1:=Lib.hid (fun w=>greg_divide s 146097 w ⟨by omega,by omega⟩ ⟨by omega,by omega⟩ (by omega))
 have q1: -20<=s / 146097/\s / 146097<=20:=by omega
 have q2:0<=s % 146097/\s % 146097<146097:=by omega
 unfold Gr.yearV Gr.leftV
 generalize s / 146097=q at*
 generalize s % 146097=r at*
 have t1:r.tdiv 36524=r / 36524:=Int.tdiv_eq_ediv_of_nonneg q2.1
 have hh:Gr.h100 r=min (r / 36524) 3:=rfl
 have a0:0<=Gr.h100 r/\Gr.h100 r<=3:=by omega
 have e2:Gr.r2 r=r-Gr.h100 r*36524:=rfl
 have a1:0<=Gr.r2 r/\Gr.r2 r<=36524:=by rw [e2];omega
 have t2:(Gr.r2 r).tdiv 1461=Gr.r2 r / 1461:=Int.tdiv_eq_ediv_of_nonneg a1.1
 have c0:0<=Gr.r2 r / 1461/\Gr.r2 r / 1461<=24:=by omega
 have e3:Gr.r3 r=Gr.r2 r-Gr.r2 r / 1461*1461:=rfl
 have c2:0<=Gr.r3 r/\Gr.r3 r<=1460:=by rw [e3];omega
 have t3:(Gr.r3 r).tdiv 365=Gr.r3 r / 365:=Int.tdiv_eq_ediv_of_nonneg c2.1
 have hd:Gr.h1 r=min (Gr.r3 r / 365) 3:=rfl
 have d0:0<=Gr.h1 r/\Gr.h1 r<=3:=by omega
 go_enter Tryo.func30,Tryz.ntmps30
 go_wp2_with fail
 refine(d1.out _).mono ?_
 rintro e w' ⟨rfl,rfl⟩
 go_wp2_with fail
 go_ret2
 refine⟨?_,rfl⟩
 first
  |rfl
  |(trace_state;simp only [Gr.h1,Gr.r3,Gr.r2,Gr.h100];done)
end Go.Proofs.YthpipedifekmpaaGreatDoor
end
section
namespace Go.Proofs.YthpipedifekmpaaGreatDoor
open Go.ChangeShapes Go.WideShapes Go.ChangeAt Go.RowKit
namespace Gr
def ml(y:Int):List Int:= [31,if leap y then 29 else 28,31,30,31,30,31,31,30,31,30,31]
theorem ml_len(y:Int):(ml y).length=12:=rfl
theorem ml_sum(y:Int):(ml y).sum=long y:=by cases h:leap y <;> simp [ml,long,h]
theorem ml_at(y:Int)(j:Nat)(hj:j<12):∃x,(ml y)[j]? =some x/\days y ((j:Int)+1)=x/\28<=x/\x<=31:=by
 match j,hj with
 |0,_|1,_|2,_|3,_|4,_|5,_|6,_|7,_|8,_|9,_|10,_|11,_=>
  cases h:leap y <;> simp [ml,days,h]
def gY(D:Int):Int:=yearV (D-1)
def gF(D:Int):Int×Int×Bool:=findL (ml (gY D)) 1 (leftV (D-1)+1)
theorem drop_sum(xs:List Int)(j:Nat)(x:Int)(h:xs[j]? =some x):(xs.drop j).sum=x+(xs.drop (j+1)).sum:=by
 obtain⟨hj,e⟩:=List.getElem?_eq_some_iff.1 h
 rw [List.drop_eq_getElem_cons hj,List.sum_cons,e]
end Gr
def Res3(w:World)(g:Nat):Prop:=w.cell? ⟨g,0,none⟩=some (.int .i64 0)/\w.cell? ⟨g,1,none⟩=some (.int .i64 0)/\w.cell? ⟨g,2,none⟩=some (.int .i64 0)/\(∀i,w.frozen? ⟨g,i,none⟩=false)/\g<w.heap.size
theorem Res3.below{w w':World}{g:Nat}(h:Res3 w g)(hb:Below w.heap.size w w'):Res3 w' g:=by
 obtain⟨h0,h1,h2,hf,hs⟩:=h
 have c:=fun i=>hb.cell (p:=⟨g,i,none⟩) hs
 exact⟨(c 0).trans h0,(c 1).trans h1,(c 2).trans h2,fun i=>(hb.frozen (p:=⟨g,i,none⟩) hs).trans (hf i),Nat.lt_of_lt_of_le hs hb.size⟩
theorem res3_alloc(w:World)(t:TypeId):Res3 (w.alloc (.cells #[.int .i64 0,.int .i64 0,.int .i64 0] t)) w.heap.size:=⟨by simp [go_sem],by simp [go_sem],by simp [go_sem],fun i=>by simp [go_sem],by simp⟩
theorem greg_FromDay_at(D:Int)(w:World)(hG:Tab w 2 Gr.gregCells)(b1: -1373427<=D)(b2:D<=2278650):
  Calls Tryo.prog 11 #[.int .i64 D] w fun e w'=>e= .returned (.tuple #[.agg #[.int .i64 (Gr.gY D),.int .i64 (Gr.gF D).1,.int .i64 (Gr.gF D).2.1],.int .i64 0])/\Below w.heap.size w w':=by
 obtain⟨hy,y1,y2,f1,f2⟩:=year_of D b1 b2
 have HC:=Lib.hid (fun w=>closed_Year_at D hy w y1 y2 f1 f2 b1 b2)
 obtain⟨e0,l0,l1⟩:=Gr.year_spec (D-1)
 obtain⟨z1,z2,z3,z4⟩:=Gr.year_bd (D-1) (by omega) (by omega)
 have HY:=Lib.hid (fun w=>greg_year (D-1) w (by omega) (by omega))
 have HD:=Lib.hid (fun m w hG=>greg_Days (Gr.yearV (D-1)) m w hG ⟨by omega,by omega⟩)
 have hs:=Gr.ml_sum (Gr.yearV (D-1))
 have hat:=Lib.hid (Gr.ml_at (Gr.yearV (D-1)))
 have hlen:=Gr.ml_len (Gr.yearV (D-1))
 have hF:findL (Gr.ml (Gr.yearV (D-1))) 1 (Gr.leftV (D-1)+1)=Gr.gF D:=rfl
 have hY:Gr.gY D=Gr.yearV (D-1):=rfl
 rw [hY]
 clear hY e0
 rw [←hs]at l1
 clear hs
 generalize Gr.gF D=R at*
 obtain⟨R1,R2,R3⟩:=R
 generalize Gr.yearV (D-1)=y at*
 generalize Gr.leftV (D-1)=L at*
 have hS:=Lib.hid l1
 have hF:=Lib.hid hF
 clear f1 f2 y1 y2 l1
 rename_i hF0
 clear hF0
 go_enter Tryo.func11,Tryz.ntmps11
 go_wp2_with fail
 refine(HC.out _).mono ?_
 rintro e w1 ⟨rfl,hb1⟩
 have hR1:=Res3.below (res3_alloc w _) hb1
 have hB1:=bt (ba _ _) hb1
 clear hb1
 go_wp2_with fail
 refine(HY.out _).mono ?_
 rintro e w2 ⟨rfl,rfl⟩
 go_wp2_with fail
 go_loopw [7,8] (fun v m wr=>∃ (j:Nat) (z:Int),j<12/\m= .int .i64 ((j:Int)+1)/\v= .int .i64 z/\0<=z/\z<=400/\Hid (findL ((Gr.ml y).drop j) ((j:Int)+1) (z+1)=(R1,R2,R3))/\Hid (z<((Gr.ml y).drop j).sum)/\Res3 wr w.heap.size/\Below w.heap.size w wr) (fun _ m _=>13-(intOf m).toNat)
 case atStart=>exact⟨0,L,by omega,rfl,rfl,by omega,by omega,hF,hS,hR1,hB1⟩
 case round=>
  obtain⟨j,z,hj,rfl,rfl,zz0,zz1,hf,hsum,hR,hB⟩:=hrel
  obtain⟨x,x1,x2,x3,x4⟩:=hat.out j hj
  have HDj:=Lib.hid (fun w hG=>(x2▸HD.out ((j:Int)+1) w hG:Calls Tryo.prog 31 #[.int .i64 y,.int .i64 ((j:Int)+1)] w fun e w'=>e= .returned (.int .i64 x)/\Below w.heap.size w w'))
  clear x2
  by_cases c:z<x
  ·have hfin:=hf.out
   rw [findL_hit _ j x _ _ x1 (by omega)]at hfin
   simp only [Prod.mk.injEq]at hfin
   obtain⟨rfl,rfl,rfl⟩:=hfin
   clear hf hF x1 hlen hS hat HD HC HY hsum hR1 hB1 z3 z4 l0
   have c2:decide (x<=z)=false:=by simp;omega
   go_wp2_with fail
   refine(HDj.out _ (Tab.below hG hB)).mono ?_
   rintro e w5 ⟨rfl,hb5⟩
   have hR5:=Res3.below hR hb5
   have hB5:=bt hB hb5
   obtain⟨r0,r1,r2,rf,rs⟩:=hR5
   go_wp2_with fail
   refine bodyPost_ret (v:= .tuple #[.agg #[.int .i64 y,.int .i64 ((j:Int)+1),.int .i64 (z+1)],.int .i64 0]) (by simp [results,Tryz.results11,go_sem, *]) rfl ⟨rfl, ?_⟩
   iterate 3 refine Below.setCell ?_ (Nat.le_refl w.heap.size) _
   exact hB5
  ·have hj2:j+1<12:=by
    have h0:=hsum.out
    rw [Gr.drop_sum _ j x x1]at h0
    rcases Nat.lt_or_ge (j+1) 12 with h|h
    ·exact h
    ·rw [List.drop_eq_nil_of_le (by omega)]at h0
     simp at h0
     omega
   have hsum2:=Lib.hid (show z-x<((Gr.ml y).drop (j+1)).sum by have h0:=hsum.out;rw [Gr.drop_sum _ j x x1]at h0;omega)
   have hf2:=Lib.hid (show findL ((Gr.ml y).drop (j+1)) (((j+1:Nat):Int)+1) (z-x+1)=(R1,R2,R3) by
    have h0:=hf.out
    rw [findL_step _ j x _ _ x1 (by omega),show z+1-x=z-x+1 by omega]at h0
    simpa using h0)
   clear hsum hf x1 hlen hS hF hat HD HC HY hR1 hB1 z3 z4 l0
   have c2:decide (x<=z)=true:=by simp;omega
   go_wp2_with fail
   refine(HDj.out _ (Tab.below hG hB)).mono ?_
   rintro e w5 ⟨rfl,hb5⟩
   have hR5:=Res3.below hR hb5
   have hB5:=bt hB hb5
   go_wp2_with fail
   refine(HDj.out _ (Tab.below hG hB5)).mono ?_
   rintro e w6 ⟨rfl,hb6⟩
   have hR6:=Res3.below hR5 hb6
   have hB6:=bt hB5 hb6
   go_wp2_with fail
   go_roundw
   case rel=>exact⟨j+1,z-x,hj2,by simp,rfl,by omega,by omega,hf2,hsum2,hR6,hB6⟩
   case measure=>simp [intOf];omega
end Go.Proofs.YthpipedifekmpaaGreatDoor
end
