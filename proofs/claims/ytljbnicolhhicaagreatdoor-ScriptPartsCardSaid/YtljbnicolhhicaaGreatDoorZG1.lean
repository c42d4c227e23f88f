import Derived.Test.YtljbnicolhhicaaGreatDoorZDates
set_option maxHeartbeats 8000000
set_option maxRecDepth 100000
set_option linter.unusedVariables false
namespace Go.Proofs.YtljbnicolhhicaaGreatDoor
section
open Go.ChangeShapes Go.WideShapes Go.ChangeAt Go.RowKit
namespace Gr
def gregCells:List Value:= [31,28,31,30,31,30,31,31,30,31,30,31].map (Value.int .i64)
def leap(y:Int):Bool:=decide (y % 4=0)&&(!decide (y % 100=0)||decide (y % 400=0))
def days(y m:Int):Int:=if decide (1<=m)&&decide (m<=12)then(if m=2/\leap y=true then 29 else([31,28,31,30,31,30,31,31,30,31,30,31]:List Int).getD (m-1).toNat 0)else 0
def ahead(y:Int):Int:=365*(y-1)+(y-1) / 4-(y-1) / 100+(y-1) / 400
theorem tmod_zero(y k:Int):(y.tmod k==0)=decide (y % k=0):=by
 rw [Bool.eq_iff_iff]
 simp only [beq_iff_eq,decide_eq_true_eq]
 exact⟨fun h=>Int.emod_eq_zero_of_dvd (Int.dvd_of_tmod_eq_zero h),fun h=>Int.tmod_eq_zero_of_dvd (Int.dvd_of_emod_eq_zero h)⟩
theorem aaA(y k:Int):(y.tmod k !=0)= !decide (y % k=0):=by rw [bne,tmod_zero]
end Gr
theorem WU(y:Int)(w:World)(hy:I64 y):vC 112 #[y] w (.bool (Gr.leap y)):=by
 have t1:=Gr.tmod_zero y 4
 have t2:=Gr.aaA y 100
 have t3:=Gr.tmod_zero y 400
 unfold Gr.leap
 generalize decide (y % 4=0)=b1 at*
 generalize decide (y % 100=0)=b2 at*
 generalize decide (y % 400=0)=b3 at*
 cases b1 <;> cases b2 <;> cases b3
 all_goals
  go_enter (vF Tryz.func112),Tryz.ntmps112
  go_wp2_with fail
  go_ret
  first
   |exact⟨rfl,rfl⟩
   |(refine⟨?_,rfl⟩;simp [*])
theorem y8(a b:Int)(w:World)(ha:I64 a)(hb:I64 b)(h:0<b):vC 113 #[a,b] w (.tuple #[.int .i64 (a / b),.int .i64 (a % b)]):=by
 have h1:=Lib.hid (fun w=>mD a b w ha hb h)
 have h2:=Lib.hid (fun w=>jR a b w ha hb h)
 generalize a / b=q at*
 generalize a % b=r at*
 go_enter (vF Tryz.func113),Tryz.ntmps113
 go_wp2_with fail
 refine vW (h1.out _) ?_
 go_wp2_with fail
 refine vW (h2.out _) ?_
 go_wp2_with fail
 go_ret2
 exact⟨rfl,rfl⟩
theorem Ux(y:Int)(w:World)(h1: -5000<=y)(h2:y<=8000):vC 65 #[y] w (.int .i64 (Gr.ahead y)):=by
 have d1:=Lib.hid (fun w=>y8 (y-1) 4 w ⟨vO,vO⟩ ⟨vO,vO⟩ vO)
 have d2:=Lib.hid (fun w=>y8 (y-1) 100 w ⟨vO,vO⟩ ⟨vO,vO⟩ vO)
 have d3:=Lib.hid (fun w=>y8 (y-1) 400 w ⟨vO,vO⟩ ⟨vO,vO⟩ vO)
 have b1: -2000<=(y-1) / 4/\(y-1) / 4<=2000:=vO
 have b2: -2000<=(y-1) / 100/\(y-1) / 100<=2000:=vO
 have b3: -2000<=(y-1) / 400/\(y-1) / 400<=2000:=vO
 unfold Gr.ahead
 generalize (y-1) / 4=q1 at*
 generalize (y-1) / 100=q2 at*
 generalize (y-1) / 400=q3 at*
 go_enter (vF Tryz.func65),Tryz.ntmps65
 go_wp2_with fail
 refine vW (d1.out _) ?_
 go_wp2_with fail
 refine vW (d2.out _) ?_
 go_wp2_with fail
 refine vW (d3.out _) ?_
 go_wp2_with fail
 go_ret
 exact⟨rfl,rfl⟩
theorem MH(y m:Int)(w:World)(hG:Tab w 1 Gr.gregCells)(h:m<1∨12<m):vB 64 #[y,m] w (.int .i64 0):=by
 by_cases h1:m<1
 ·have h2:¬ 12<m:=vO
  go_enter (vF Tryz.func64),Tryz.ntmps64
  go_wp2_with fail
  go_ret
  exact⟨rfl,Below.refl _ _⟩
 ·have h2:12<m:=vO
  go_enter (vF Tryz.func64),Tryz.ntmps64
  go_wp2_with fail
  go_ret
  exact⟨rfl,Below.refl _ _⟩
theorem Qt(y:Int)(w:World)(hG:Tab w 1 Gr.gregCells):vB 64 #[y,(1:Int)] w (.int .i64 31):=by
 have hc:w.cell? ⟨1,0,none⟩=some (.int .i64 31):=by rw [hG.cell];rfl
 go_enter (vF Tryz.func64),Tryz.ntmps64
 go_wp2_with fail
 go_ret
 exact⟨rfl,by first|exact Below.refl _ _|exact ba _ _⟩
theorem RY(y:Int)(w:World)(hG:Tab w 1 Gr.gregCells)(hy:I64 y):vB 64 #[y,(2:Int)] w (.int .i64 (if Gr.leap y then 29 else 28)):=by
 have hl:=Lib.hid (fun w=>WU y w hy)
 have hc:w.cell? ⟨1,1,none⟩=some (.int .i64 28):=by rw [hG.cell];rfl
 generalize Gr.leap y=b at*
 cases b
 ·simp only [Bool.false_eq_true,if_false]
  go_enter (vF Tryz.func64),Tryz.ntmps64
  go_wp2_with fail
  refine vW (hl.out _) ?_
  go_wp2_with fail
  go_ret
  exact⟨rfl,by first|exact Below.refl _ _|exact ba _ _⟩
 ·simp only [if_true]
  go_enter (vF Tryz.func64),Tryz.ntmps64
  go_wp2_with fail
  refine vW (hl.out _) ?_
  go_wp2_with fail
  go_ret
  exact⟨rfl,by first|exact Below.refl _ _|exact ba _ _⟩
theorem RA(y:Int)(w:World)(hG:Tab w 1 Gr.gregCells):vB 64 #[y,(3:Int)] w (.int .i64 31):=by
 have hc:w.cell? ⟨1,2,none⟩=some (.int .i64 31):=by rw [hG.cell];rfl
 go_enter (vF Tryz.func64),Tryz.ntmps64
 go_wp2_with fail
 go_ret
 exact⟨rfl,by first|exact Below.refl _ _|exact ba _ _⟩
theorem Ry(y:Int)(w:World)(hG:Tab w 1 Gr.gregCells):vB 64 #[y,(4:Int)] w (.int .i64 30):=by
 have hc:w.cell? ⟨1,3,none⟩=some (.int .i64 30):=by rw [hG.cell];rfl
 go_enter (vF Tryz.func64),Tryz.ntmps64
 go_wp2_with fail
 go_ret
 exact⟨rfl,by first|exact Below.refl _ _|exact ba _ _⟩
theorem Qx(y:Int)(w:World)(hG:Tab w 1 Gr.gregCells):vB 64 #[y,(5:Int)] w (.int .i64 31):=by
 have hc:w.cell? ⟨1,4,none⟩=some (.int .i64 31):=by rw [hG.cell];rfl
 go_enter (vF Tryz.func64),Tryz.ntmps64
 go_wp2_with fail
 go_ret
 exact⟨rfl,by first|exact Below.refl _ _|exact ba _ _⟩
theorem Rm(y:Int)(w:World)(hG:Tab w 1 Gr.gregCells):vB 64 #[y,(6:Int)] w (.int .i64 30):=by
 have hc:w.cell? ⟨1,5,none⟩=some (.int .i64 30):=by rw [hG.cell];rfl
 go_enter (vF Tryz.func64),Tryz.ntmps64
 go_wp2_with fail
 go_ret
 exact⟨rfl,by first|exact Below.refl _ _|exact ba _ _⟩
theorem Ro(y:Int)(w:World)(hG:Tab w 1 Gr.gregCells):vB 64 #[y,(7:Int)] w (.int .i64 31):=by
 have hc:w.cell? ⟨1,6,none⟩=some (.int .i64 31):=by rw [hG.cell];rfl
 go_enter (vF Tryz.func64),Tryz.ntmps64
 go_wp2_with fail
 go_ret
 exact⟨rfl,by first|exact Below.refl _ _|exact ba _ _⟩
theorem Rs(y:Int)(w:World)(hG:Tab w 1 Gr.gregCells):vB 64 #[y,(8:Int)] w (.int .i64 31):=by
 have hc:w.cell? ⟨1,7,none⟩=some (.int .i64 31):=by rw [hG.cell];rfl
 go_enter (vF Tryz.func64),Tryz.ntmps64
 go_wp2_with fail
 go_ret
 exact⟨rfl,by first|exact Below.refl _ _|exact ba _ _⟩
theorem Sd(y:Int)(w:World)(hG:Tab w 1 Gr.gregCells):vB 64 #[y,(9:Int)] w (.int .i64 30):=by
 have hc:w.cell? ⟨1,8,none⟩=some (.int .i64 30):=by rw [hG.cell];rfl
 go_enter (vF Tryz.func64),Tryz.ntmps64
 go_wp2_with fail
 go_ret
 exact⟨rfl,by first|exact Below.refl _ _|exact ba _ _⟩
theorem MI(y:Int)(w:World)(hG:Tab w 1 Gr.gregCells):vB 64 #[y,(10:Int)] w (.int .i64 31):=by
 have hc:w.cell? ⟨1,9,none⟩=some (.int .i64 31):=by rw [hG.cell];rfl
 go_enter (vF Tryz.func64),Tryz.ntmps64
 go_wp2_with fail
 go_ret
 exact⟨rfl,by first|exact Below.refl _ _|exact ba _ _⟩
theorem ND(y:Int)(w:World)(hG:Tab w 1 Gr.gregCells):vB 64 #[y,(11:Int)] w (.int .i64 30):=by
 have hc:w.cell? ⟨1,10,none⟩=some (.int .i64 30):=by rw [hG.cell];rfl
 go_enter (vF Tryz.func64),Tryz.ntmps64
 go_wp2_with fail
 go_ret
 exact⟨rfl,by first|exact Below.refl _ _|exact ba _ _⟩
theorem MQ(y:Int)(w:World)(hG:Tab w 1 Gr.gregCells):vB 64 #[y,(12:Int)] w (.int .i64 31):=by
 have hc:w.cell? ⟨1,11,none⟩=some (.int .i64 31):=by rw [hG.cell];rfl
 go_enter (vF Tryz.func64),Tryz.ntmps64
 go_wp2_with fail
 go_ret
 exact⟨rfl,by first|exact Below.refl _ _|exact ba _ _⟩
end
section
open Go.ChangeShapes Go.WideShapes Go.ChangeAt Go.RowKit
namespace Gr
def long(y:Int):Int:=if leap y then 366 else 365
def h100(r:Int):Int:=min (r / 36524) 3
def r2(r:Int):Int:=r-h100 r*36524
def r3(r:Int):Int:=r2 r-r2 r / 1461*1461
def h1(r:Int):Int:=min (r3 r / 365) 3
end Gr
theorem Ml(y m:Int)(w:World)(hG:Tab w 1 Gr.gregCells)(hy:I64 y):vB 64 #[y,m] w (.int .i64 (Gr.days y m)):=by
 by_cases h:m<1∨12<m
 ·rw [show Gr.days y m=0 by unfold Gr.days;rw [if_neg];simp;omega]
  exact MH y m w hG h
 ·rcases(show m=1∨m=2∨m=3∨m=4∨m=5∨m=6∨m=7∨m=8∨m=9∨m=10∨m=11∨m=12 by omega)with rfl|rfl|rfl|rfl|rfl|rfl|rfl|rfl|rfl|rfl|rfl|rfl
  ·exact Qt y w hG
  ·rw [show Gr.days y 2=if Gr.leap y then 29 else 28 by cases h:Gr.leap y <;> simp [Gr.days,h]]
   exact RY y w hG hy
  ·exact RA y w hG
  ·exact Ry y w hG
  ·exact Qx y w hG
  ·exact Rm y w hG
  ·exact Ro y w hG
  ·exact Rs y w hG
  ·exact Sd y w hG
  ·exact MI y w hG
  ·exact ND y w hG
  ·exact MQ y w hG
end
section
open Go.ChangeShapes Go.WideShapes Go.ChangeAt Go.RowKit
namespace Gr
def ml(y:Int):List Int:= [31,if leap y then 29 else 28,31,30,31,30,31,31,30,31,30,31]
theorem aaV(y:Int):∀x∈ml y,28<=x/\x<=31:=by
 intro x hx
 cases h:leap y <;> simp [ml,h]at hx <;> omega
theorem ab7(y:Int):(ml y).sum=long y:=by cases h:leap y <;> simp [ml,long,h]
theorem aaX(y:Int)(j:Nat)(hj:j<12):∃x,(ml y)[j]? =some x/\days y ((j:Int)+1)=x/\28<=x/\x<=31:=by
 match j,hj with
 |0,_|1,_|2,_|3,_|4,_|5,_|6,_|7,_|8,_|9,_|10,_|11,_=>
  cases h:leap y <;> simp [ml,days,h]
end Gr
def Res3(w:World)(g:Nat):Prop:=w.cell? ⟨g,0,none⟩=some (.int .i64 0)/\w.cell? ⟨g,1,none⟩=some (.int .i64 0)/\w.cell? ⟨g,2,none⟩=some (.int .i64 0)/\(∀i,w.frozen? ⟨g,i,none⟩=false)/\g<w.1.size
theorem Res3.below{w w':World}{g:Nat}(h:Res3 w g)(hb:Below w.1.size w w'):Res3 w' g:=by
 obtain⟨h0,h1,h2,hf,hs⟩:=h
 have c:=fun i=>hb.cell (p:=⟨g,i,none⟩) hs
 exact⟨(c 0).trans h0,(c 1).trans h1,(c 2).trans h2,fun i=>(hb.frozen (p:=⟨g,i,none⟩) hs).trans (hf i),Nat.lt_of_lt_of_le hs hb.size⟩
end
end Go.Proofs.YtljbnicolhhicaaGreatDoor
