import Derived.Test.YthpipedifekmpaaGreatDoorJMO
import Derived.Test.YthpipedifekmpaaGreatDoorJKE
import Derived.Test.YthpipedifekmpaaGreatDoorJCO
import Derived.Test.YthpipedifekmpaaGreatDoorJLC
set_option maxHeartbeats 8000000
set_option maxRecDepth 100000
set_option linter.unusedVariables false
namespace Go.Proofs.YthpipedifekmpaaGreatDoor
open Go.ChangeShapes Go.WideShapes Go.ChangeAt Go.RowKit
namespace D10
theorem sum_nn:∀ (xs:List Int),(∀y∈xs,0<=y)->0<=xs.sum
 | [],_=>by simp
 |y :: ys,h=>by
  have h1:=h y (by simp)
  have h2:=sum_nn ys (fun z hz=>h z (by simp [hz]))
  rw [List.sum_cons];omega
theorem findL_in(r:Int)(hr:1<=r):∀ (j:Nat) (xs:List Int) (i x:Int),(∀y∈xs,0<=y)->xs[j]? =some x->r<=x->findL xs i ((xs.take j).sum+r)=(i+j,r,true)
 |0,[],_,_,_,h,_=>by simp at h
 |0,y :: ys,i,x,_,h,hx=>by
  simp only [List.getElem?_cons_zero,Option.some.injEq]at h
  subst h
  simp [findL,hx]
 |j+1,[],_,_,_,h,_=>by simp at h
 |j+1,y :: ys,i,x,hp,h,hx=>by
  have hy:=hp y (by simp)
  have hs:0<=(ys.take j).sum:=sum_nn _ (fun z hz=>hp z (by simp [List.mem_of_mem_take hz]))
  have ih:=findL_in r hr j ys (i+1) x (fun z hz=>hp z (by simp [hz])) (by simpa using h) hx
  rw [List.take_succ_cons,List.sum_cons,findL,if_neg (by omega),show y+(ys.take j).sum+r-y=(ys.take j).sum+r by omega,ih]
  simp only [Prod.mk.injEq,and_true]
  omega
theorem findV_in(b k:Int)(l:Bool)(j:Nat)(x r:Int)(hj:(j:Int)+1<=cnt b k l)(hx:(lens k l)[j]? =some x)(h1:1<=r)(h2:r<=x):findV b k l (((lens k l).take j).sum+r)=((j:Int)+1,r,true):=by
 have hbd:=lens_bd k l
 have hs:=(sum_bd (lens k l) hbd j).1
 have hjn:j<(cnt b k l).toNat:=by omega
 unfold findV
 rw [if_neg (by omega)]
 have:=findL_in r h1 j ((lens k l).take (cnt b k l).toNat) 1 x (fun y hy=>by have:=hbd y (List.mem_of_mem_take hy);omega) (by rw [List.getElem?_take_of_lt hjn];exact hx) h2
 rw [List.take_take,Nat.min_eq_left (by omega)]at this
 rw [this,Int.add_comm]
theorem number_row(n:Nat)(hn:n<14):number (kevB n) (kevK n) (kevL n)=(n:Int)+1:=by
 match n,hn with
 |0,_|1,_|2,_|3,_|4,_|5,_|6,_|7,_|8,_|9,_|10,_|11,_|12,_|13,_=>decide
theorem row_sum(i:Nat)(hi:i<14):(lens (kevK i) (kevL i)).sum=353+kevK i+if kevL i then 30 else 0:=by
 match i,hi with
 |0,_|1,_|2,_|3,_|4,_|5,_|6,_|7,_|8,_|9,_|10,_|11,_|12,_|13,_=>decide
theorem row_cnt(i:Nat)(hi:i<14):cnt (kevB i) (kevK i) (kevL i)=(lens (kevK i) (kevL i)).length:=cnt_yes _ _ _ (by rw [number_row i hi];omega)
theorem sum_there:∀ (xs:List Int) (r:Int),1<=r->r<=xs.sum->∃ (j:Nat) (x q:Int),xs[j]? =some x/\1<=q/\q<=x/\r=(xs.take j).sum+q
 | [],r,h1,h2=>by simp at h2;omega
 | y :: ys,r,h1,h2=>by
  by_cases c:r<=y
  ·exact⟨0,y,r,by simp,h1,c,by simp⟩
  ·rw [List.sum_cons]at h2
   obtain⟨j,x,q,e1,e2,e3,e4⟩:=sum_there ys (r-y) (by omega) (by omega)
   exact⟨j+1,x,q,by simpa using e1,e2,e3,by rw [List.take_succ_cons,List.sum_cons];omega⟩
theorem take_mono(xs:List Int)(h:∀x∈xs,0<=x)(a:Nat):∀n:Nat,(xs.take a).sum<=(xs.take (a+n)).sum
 |0=>Int.le_refl _
 | n+1=>by
  have ih:=take_mono xs h a n
  cases e:xs[a+n]? with
  |none=>
   have:xs.length<=a+n:=by simpa using e
   rw [List.take_of_length_le this]at ih
   rw [List.take_of_length_le (show xs.length<=a+(n+1) by omega)]
   exact ih
  |some x=>
   have:=sum_take xs (a+n) x e
   have hx:=h x (List.mem_of_getElem? e)
   rw [show a+(n+1)=a+n+1 by omega]
   omega
def ls(y:Int):List Int:=lens (Cal.kind y) (Cal.leap y)
def dLen(y m:Int):Int:=daysV (Cal.first y % 7) (Cal.kind y) (Cal.leap y) m
def dAhead(y m:Int):Int:=aheadV (Cal.first y % 7) (Cal.kind y) (Cal.leap y) m
theorem year_facts(y:Int)(h1:1<=y)(h2:y<=9999):cnt (Cal.first y % 7) (Cal.kind y) (Cal.leap y)=Cal.most (Cal.leap y)/\(ls y).sum=Cal.long y/\((ls y).length:Int)=Cal.most (Cal.leap y):=by
 have hk:Cal.long y=Cal.kind y+(if Cal.leap y then 383 else 353):=by unfold Cal.kind;omega
 obtain⟨i,hi,e1,e2,e3⟩:=year_row y h1 h2
 have hl:=lens_len (Cal.kind y) (Cal.leap y)
 have hc:=row_cnt i hi
 have hs:=row_sum i hi
 rw [←e1,←e2,←e3]at hc
 rw [←e2,←e3]at hs
 unfold ls Cal.most
 rw [hc,hs,hl,hk]
 cases Cal.leap y <;> simp <;> omega
theorem ls_bd(y:Int):∀x∈ls y,29<=x/\x<=30:=lens_bd _ _
theorem ls_nn(y:Int):∀x∈ls y,0<=x:=fun x hx=>by have:=ls_bd y x hx;omega
theorem month_facts(y m:Int)(h1:1<=y)(h2:y<=9999)(m1:1<=m)(m2:m<=Cal.most (Cal.leap y)):
  ∃ (j:Nat) (x:Int),m=(j:Int)+1/\(ls y)[j]? =some x/\dLen y m=x/\dAhead y m=((ls y).take j).sum/\29<=x/\x<=30/\(j:Int)+1<=cnt (Cal.first y % 7) (Cal.kind y) (Cal.leap y):=by
 obtain⟨hc,hs,hl⟩:=year_facts y h1 h2
 obtain⟨x,e1,e2,e3,e4⟩:=lens_at (Cal.kind y) (Cal.leap y) (m-1).toNat (by change (m-1).toNat<(ls y).length;omega)
 have hh:has (Cal.first y % 7) (Cal.kind y) (Cal.leap y) m=true:=by unfold has;rw [hc];simp [m1,m2]
 refine⟨(m-1).toNat,x,by omega,e1, ?_, ?_,e3,e4,by rw [hc];omega⟩
 ·unfold dLen daysV;rw [hh,if_pos rfl,e2]
 ·unfold dAhead aheadV;rw [hh,if_pos rfl];rfl
theorem len_bd(y m:Int)(h1:1<=y)(h2:y<=9999)(m1:1<=m)(m2:m<=Cal.most (Cal.leap y)):29<=dLen y m/\dLen y m<=30:=by
 obtain⟨j,x,_,_,e,_,e1,e2,_⟩:=month_facts y m h1 h2 m1 m2
 omega
theorem ahead_find(y m d:Int)(h1:1<=y)(h2:y<=9999)(m1:1<=m)(m2:m<=Cal.most (Cal.leap y))(d1:1<=d)(d2:d<=dLen y m):
  findV (Cal.first y % 7) (Cal.kind y) (Cal.leap y) (dAhead y m+d)=(m,d,true):=by
 obtain⟨j,x,e0,e1,e2,e3,_,_,e4⟩:=month_facts y m h1 h2 m1 m2
 rw [e3,e0]
 exact findV_in _ _ _ j x d e4 e1 d1 (by omega)
theorem ahead_there(y r:Int)(h1:1<=y)(h2:y<=9999)(r1:1<=r)(r2:r<=Cal.long y):
  ∃m d,1<=m/\m<=Cal.most (Cal.leap y)/\1<=d/\d<=dLen y m/\r=dAhead y m+d:=by
 obtain⟨hc,hs,hl⟩:=year_facts y h1 h2
 obtain⟨j,x,q,e1,e2,e3,e4⟩:=sum_there (ls y) r r1 (by omega)
 have hj:j<(ls y).length:=(List.getElem?_eq_some_iff.1 e1).1
 obtain⟨j',x',f0,f1,f2,f3,_⟩:=month_facts y ((j:Int)+1) h1 h2 (by omega) (by omega)
 obtain rfl:j'=j:=by omega
 rw [e1]at f1
 cases f1
 exact⟨(j':Int)+1,q,by omega,by omega,e2,by omega,by omega⟩
theorem ahead_one(y:Int)(h1:1<=y)(h2:y<=9999):dAhead y 1=0:=by
 obtain⟨j,x,e0,e1,e2,e3,_⟩:=month_facts y 1 h1 h2 (by omega) (by unfold Cal.most;split <;> omega)
 obtain rfl:j=0:=by omega
 simpa using e3
theorem ahead_most(y:Int)(h1:1<=y)(h2:y<=9999):dAhead y (Cal.most (Cal.leap y))+dLen y (Cal.most (Cal.leap y))=Cal.long y:=by
 obtain⟨hc,hs,hl⟩:=year_facts y h1 h2
 have hm:1<=Cal.most (Cal.leap y):=by unfold Cal.most;split <;> omega
 obtain⟨j,x,e0,e1,e2,e3,_⟩:=month_facts y _ h1 h2 hm (Int.le_refl _)
 have:=sum_take _ _ _ e1
 rw [List.take_of_length_le (by omega)]at this
 omega
theorem ahead_up(y m m':Int)(h1:1<=y)(h2:y<=9999)(m1:1<=m)(hm:m<m')(m2:m'<=Cal.most (Cal.leap y)):dAhead y m+dLen y m<=dAhead y m':=by
 obtain⟨j,x,e0,e1,e2,e3,_⟩:=month_facts y m h1 h2 m1 (by omega)
 obtain⟨j',x',f0,f1,f2,f3,_⟩:=month_facts y m' h1 h2 (by omega) m2
 have:=take_mono (ls y) (ls_nn y) (j+1) (j'-(j+1))
 rw [sum_take _ _ _ e1,show j+1+(j'-(j+1))=j' by omega]at this
 omega
theorem ahead_nn(y m:Int)(h1:1<=y)(h2:y<=9999)(m1:1<=m)(m2:m<=Cal.most (Cal.leap y)):0<=dAhead y m/\dAhead y m+dLen y m<=Cal.long y:=by
 have a1:=ahead_one y h1 h2
 have a2:=ahead_most y h1 h2
 have hm:1<=Cal.most (Cal.leap y):=by unfold Cal.most;split <;> omega
 have b1:=len_bd y 1 h1 h2 (by omega) hm
 have b2:=len_bd y _ h1 h2 hm (Int.le_refl _)
 refine⟨?_, ?_⟩
 ·by_cases c:m=1
  ·rw [c];omega
  ·have:=ahead_up y 1 m h1 h2 (by omega) (by omega) m2;omega
 ·by_cases c:m=Cal.most (Cal.leap y)
  ·rw [c];omega
  ·have:=ahead_up y m _ h1 h2 m1 (show m<Cal.most (Cal.leap y) by omega) (Int.le_refl _);omega
def dayOf(y m d:Int):Int:=Cal.first y+dAhead y m+d-1
def Valid(y m d:Int):Prop:=1<=y/\y<=9999/\1<=m/\m<=Cal.most (Cal.leap y)/\1<=d/\d<=dLen y m
theorem day_in{y m d:Int}(h:Valid y m d):Cal.first y<=dayOf y m d/\dayOf y m d<Cal.first (y+1):=by
 obtain⟨h1,h2,m1,m2,d1,d2⟩:=h
 have:=ahead_nn y m h1 h2 m1 m2
 have hl:Cal.long y=Cal.first (y+1)-Cal.first y:=rfl
 unfold dayOf;omega
theorem day_bd{y m d:Int}(h:Valid y m d): -1373427<=dayOf y m d/\dayOf y m d<=2278650:=by
 have h3:=day_in h
 obtain⟨h1,h2,_⟩:=h
 have a:=first_mono 1 y (by omega) h1 (by omega)
 have b:=first_mono (y+1) 10000 (by omega) (by omega) (by omega)
 rw [first_one]at a
 rw [first_last]at b
 omega
theorem day_find{y m d:Int}(h:Valid y m d):findV (Cal.first y % 7) (Cal.kind y) (Cal.leap y) (dayOf y m d-Cal.first y+1)=(m,d,true):=by
 obtain⟨h1,h2,m1,m2,d1,d2⟩:=h
 rw [show dayOf y m d-Cal.first y+1=dAhead y m+d by unfold dayOf;omega]
 exact ahead_find y m d h1 h2 m1 m2 d1 d2
theorem day_there(D:Int)(h1: -1373427<=D)(h2:D<=2278650):∃y m d,Valid y m d/\D=dayOf y m d:=by
 obtain⟨y,y1,y2,f1,f2⟩:=year_of D h1 h2
 obtain⟨m,d,m1,m2,d1,d2,e⟩:=ahead_there y (D-Cal.first y+1) y1 y2 (by omega) (by unfold Cal.long;omega)
 exact⟨y,m,d,⟨y1,y2,m1,m2,d1,d2⟩,by unfold dayOf;omega⟩
theorem day_lt{y m d y' m' d':Int}(h:Valid y m d)(h':Valid y' m' d')(hl:y<y'∨y=y'/\(m<m'∨m=m'/\d<d')):dayOf y m d<dayOf y' m' d':=by
 have a:=day_in h
 have b:=day_in h'
 obtain⟨h1,h2,m1,m2,d1,d2⟩:=h
 obtain⟨h1',h2',m1',m2',d1',d2'⟩:=h'
 rcases hl with c|⟨rfl,c|⟨rfl,c⟩⟩
 ·have:=first_mono (y+1) y' (by omega) (by omega) (by omega)
  omega
 ·have:=ahead_up y m m' h1 h2 m1 c m2'
  unfold dayOf;omega
 ·unfold dayOf;omega
theorem day_eq{y m d y' m' d':Int}(h:Valid y m d)(h':Valid y' m' d')(e:dayOf y m d=dayOf y' m' d'):y=y'/\m=m'/\d=d':=by
 by_cases c:y<y'∨y=y'/\(m<m'∨m=m'/\d<d')
 ·have:=day_lt h h' c;omega
 ·by_cases c':y'<y∨y'=y/\(m'<m∨m'=m/\d'<d)
  ·have:=day_lt h' h c';omega
  ·omega
theorem day_iff{y m d y' m' d':Int}(h:Valid y m d)(h':Valid y' m' d'):dayOf y m d<dayOf y' m' d'↔(y<y'∨y=y'/\(m<m'∨m=m'/\d<d')):=by
 refine⟨fun c=> ?_,day_lt h h'⟩
 by_cases k:y<y'∨y=y'/\(m<m'∨m=m'/\d<d')
 ·exact k
 ·by_cases c':y'<y∨y'=y/\(m'<m∨m'=m/\d'<d)
  ·have:=day_lt h' h c';omega
  ·obtain⟨rfl,rfl,rfl⟩:y=y'/\m=m'/\d=d':=by omega
   omega
theorem place_in(lp:Bool)(n:Int)(l:Bool)(h:Cal.plOk lp n l=true):1<=Cal.plV lp n l/\Cal.plV lp n l<=Cal.most lp/\Cal.ofN lp (Cal.plV lp n l)=n/\Cal.ofL lp (Cal.plV lp n l)=l:=by
 obtain⟨j,hj,e⟩:=codes_there lp n l h
 obtain⟨e1,e2,e3⟩:=codes_at lp j hj
 have h2:=codes_place lp j n l e
 have hl:=codes_len lp
 rw [e]at e1
 simp only [Option.some.injEq,Prod.mk.injEq]at e1
 rw [h2.2,←e1.1,←e1.2]
 refine⟨by omega, ?_,rfl,rfl⟩
 unfold Cal.most;split <;> simp_all <;> omega
def lessAll(lp:Bool):Bool:=(List.range (codesTo lp 12).length).all fun i=>(List.range (codesTo lp 12).length).all fun j=>Cal.lessV (Cal.ofN lp ((i:Int)+1)) (Cal.ofL lp ((i:Int)+1)) (Cal.ofN lp ((j:Int)+1)) (Cal.ofL lp ((j:Int)+1))==decide (i<j)
theorem lessAll_ok(lp:Bool):lessAll lp=true:=by cases lp <;> decide+kernel
theorem less_place(lp:Bool)(n k:Int)(l h:Bool)(h1:Cal.plOk lp n l=true)(h2:Cal.plOk lp k h=true):Cal.lessV n l k h=decide (Cal.plV lp n l<Cal.plV lp k h):=by
 obtain⟨a1,a2,a3,a4⟩:=place_in lp n l h1
 obtain⟨b1,b2,b3,b4⟩:=place_in lp k h h2
 have hl:=codes_len lp
 have hm:((codesTo lp 12).length:Int)=Cal.most lp:=by rw [hl];unfold Cal.most;cases lp <;> rfl
 have:=List.all_eq_true.1 (lessAll_ok lp) (Cal.plV lp n l-1).toNat (List.mem_range.2 (by omega))
 have:=List.all_eq_true.1 this (Cal.plV lp k h-1).toNat (List.mem_range.2 (by omega))
 rw [show(((Cal.plV lp n l-1).toNat:Nat):Int)+1=Cal.plV lp n l by omega,show(((Cal.plV lp k h-1).toNat:Nat):Int)+1=Cal.plV lp k h by omega,a3,a4,b3,b4]at this
 rw [eq_of_beq this]
 exact decide_eq_decide.2 (by omega)
def lastE(y n:Int)(l:Bool):Int:=if Cal.yearIn y then(if Cal.plOk (Cal.leap y) n l then 0 else 3)else 2
def lastV(y n:Int)(l:Bool):Int:=if Cal.yearIn y&&Cal.plOk (Cal.leap y) n l then dLen y (Cal.plV (Cal.leap y) n l)else 0
def dateE(y n:Int)(l:Bool)(d:Int):Int:=if Cal.yearIn y then(if Cal.plOk (Cal.leap y) n l then(if decide (1<=d)&&decide (d<=dLen y (Cal.plV (Cal.leap y) n l))then 0 else 4)else 3)else 2
def dayV(y n:Int)(l:Bool)(d:Int):Int:=if dateE y n l d=0 then dayOf y (Cal.plV (Cal.leap y) n l) d else 0
theorem year_in(y:Int)(h:Cal.yearIn y=true):1<=y/\y<=9999:=by simpa [Cal.yearIn]using h
theorem year_out(y:Int)(h:Cal.yearIn y=false):y<1∨9999<y:=by simp [Cal.yearIn]at h;omega
theorem date_valid{y n d:Int}{l:Bool}(h:dateE y n l d=0):Valid y (Cal.plV (Cal.leap y) n l) d/\Cal.plOk (Cal.leap y) n l=true:=by
 unfold dateE at h
 split at h
 ·rename_i h1
  split at h
  ·rename_i h2
   split at h
   ·rename_i h3
    have:=year_in y h1
    have hp:=place_in _ _ _ h2
    simp only [Bool.and_eq_true,decide_eq_true_eq]at h3
    exact⟨⟨this.1,this.2,hp.1,hp.2.1,h3.1,h3.2⟩,h2⟩
   ·omega
  ·omega
 ·omega
end D10
end Go.Proofs.YthpipedifekmpaaGreatDoor
