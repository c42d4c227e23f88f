import Derived.Test.YthnjjcoahdhmnaaGreatDoorEMO
import Derived.Test.YthnjjcoahdhmnaaGreatDoorEKE
import Derived.Test.YthnjjcoahdhmnaaGreatDoorECO
import Derived.Test.YthnjjcoahdhmnaaGreatDoorELC
set_option maxHeartbeats 8000000
set_option maxRecDepth 100000
set_option linter.unusedVariables false
namespace Go.Proofs.YthnjjcoahdhmnaaGreatDoor
open Go.ChangeShapes Go.WideShapes Go.ChangeAt Go.RowKit
namespace D10
theorem V8:∀ (xs:List Int),(∀y∈xs,0<=y)->0<=xs.sum
 | [],_=>by simp
 |y :: ys,h=>by
  have h1:=h y (by simp)
  have h2:=V8 ys (fun z hz=>h z (by simp [hz]))
  rw [List.sum_cons];omega
theorem Pe(r:Int)(hr:1<=r):∀ (j:Nat) (xs:List Int) (i x:Int),(∀y∈xs,0<=y)->xs[j]? =some x->r<=x->dS xs i ((xs.take j).sum+r)=(i+j,r,true)
 |0,[],_,_,_,h,_=>by simp at h
 |0,y :: ys,i,x,_,h,hx=>by
  simp only [List.getElem?_cons_zero,Option.some.injEq]at h
  subst h
  simp [dS,hx]
 |j+1,[],_,_,_,h,_=>by simp at h
 |j+1,y :: ys,i,x,hp,h,hx=>by
  have hy:=hp y (by simp)
  have hs:0<=(ys.take j).sum:=V8 _ (fun z hz=>hp z (by simp [List.mem_of_mem_take hz]))
  have ih:=Pe r hr j ys (i+1) x (fun z hz=>hp z (by simp [hz])) (by simpa using h) hx
  rw [List.take_succ_cons,List.sum_cons,dS,if_neg (by omega),show y+(ys.take j).sum+r-y=(ys.take j).sum+r by omega,ih]
  simp only [Prod.mk.injEq,and_true]
  omega
theorem V5(b k:Int)(l:Bool)(j:Nat)(x r:Int)(hj:(j:Int)+1<=cnt b k l)(hx:(lens k l)[j]? =some x)(h1:1<=r)(h2:r<=x):mU b k l (((lens k l).take j).sum+r)=((j:Int)+1,r,true):=by
 have hbd:=mX k l
 have hs:=(Fu (lens k l) hbd j).1
 have hjn:j<(cnt b k l).toNat:=by omega
 unfold mU
 rw [if_neg (by omega)]
 have:=Pe r h1 j ((lens k l).take (cnt b k l).toNat) 1 x (fun y hy=>by have:=hbd y (List.mem_of_mem_take hy);omega) (by rw [List.getElem?_take_of_lt hjn];exact hx) h2
 rw [List.take_take,Nat.min_eq_left (by omega)]at this
 rw [this,Int.add_comm]
theorem Sw(n:Nat)(hn:n<14):number (bn n) (dN n) (dF n)=(n:Int)+1:=by
 match n,hn with
 |0,_|1,_|2,_|3,_|4,_|5,_|6,_|7,_|8,_|9,_|10,_|11,_|12,_|13,_=>decide
theorem XY(i:Nat)(hi:i<14):(lens (dN i) (dF i)).sum=353+dN i+if dF i then 30 else 0:=by
 match i,hi with
 |0,_|1,_|2,_|3,_|4,_|5,_|6,_|7,_|8,_|9,_|10,_|11,_|12,_|13,_=>decide
theorem X7(i:Nat)(hi:i<14):cnt (bn i) (dN i) (dF i)=(lens (dN i) (dF i)).length:=EA _ _ _ (by rw [Sw i hi];omega)
theorem BI:∀ (xs:List Int) (r:Int),1<=r->r<=xs.sum->∃ (j:Nat) (x q:Int),xs[j]? =some x/\1<=q/\q<=x/\r=(xs.take j).sum+q
 | [],r,h1,h2=>by simp at h2;omega
 | y :: ys,r,h1,h2=>by
  by_cases c:r<=y
  ·exact⟨0,y,r,by simp,h1,c,by simp⟩
  ·rw [List.sum_cons]at h2
   obtain⟨j,x,q,e1,e2,e3,e4⟩:=BI ys (r-y) (by omega) (by omega)
   exact⟨j+1,x,q,by simpa using e1,e2,e3,by rw [List.take_succ_cons,List.sum_cons];omega⟩
theorem su(xs:List Int)(h:∀x∈xs,0<=x)(a:Nat):∀n:Nat,(xs.take a).sum<=(xs.take (a+n)).sum
 |0=>Int.le_refl _
 | n+1=>by
  have ih:=su xs h a n
  cases e:xs[a+n]? with
  |none=>
   have:xs.length<=a+n:=by simpa using e
   rw [List.take_of_length_le this]at ih
   rw [List.take_of_length_le (show xs.length<=a+(n+1) by omega)]
   exact ih
  |some x=>
   have:=og xs (a+n) x e
   have hx:=h x (List.mem_of_getElem? e)
   rw [show a+(n+1)=a+n+1 by omega]
   omega
def ls(y:Int):List Int:=lens (Cal.kind y) (Cal.leap y)
def dLen(y m:Int):Int:=jo (Cal.first y % 7) (Cal.kind y) (Cal.leap y) m
def ig(y m:Int):Int:=bE (Cal.first y % 7) (Cal.kind y) (Cal.leap y) m
theorem uQ(y:Int)(h1:1<=y)(h2:y<=9999):cnt (Cal.first y % 7) (Cal.kind y) (Cal.leap y)=Cal.most (Cal.leap y)/\(ls y).sum=Cal.long y/\((ls y).length:Int)=Cal.most (Cal.leap y):=by
 have hk:Cal.long y=Cal.kind y+(if Cal.leap y then 383 else 353):=by unfold Cal.kind;omega
 obtain⟨i,hi,e1,e2,e3⟩:=QH y h1 h2
 have hl:=dH (Cal.kind y) (Cal.leap y)
 have hc:=X7 i hi
 have hs:=XY i hi
 rw [←e1,←e2,←e3]at hc
 rw [←e2,←e3]at hs
 unfold ls Cal.most
 rw [hc,hs,hl,hk]
 cases Cal.leap y <;> simp <;> omega
theorem ls_bd(y:Int):∀x∈ls y,29<=x/\x<=30:=mX _ _
theorem ls_nn(y:Int):∀x∈ls y,0<=x:=fun x hx=>by have:=ls_bd y x hx;omega
theorem iw(y m:Int)(h1:1<=y)(h2:y<=9999)(m1:1<=m)(m2:m<=Cal.most (Cal.leap y)):
  ∃ (j:Nat) (x:Int),m=(j:Int)+1/\(ls y)[j]? =some x/\dLen y m=x/\ig y m=((ls y).take j).sum/\29<=x/\x<=30/\(j:Int)+1<=cnt (Cal.first y % 7) (Cal.kind y) (Cal.leap y):=by
 obtain⟨hc,hs,hl⟩:=uQ y h1 h2
 obtain⟨x,e1,e2,e3,e4⟩:=Et (Cal.kind y) (Cal.leap y) (m-1).toNat (by change (m-1).toNat<(ls y).length;omega)
 have hh:has (Cal.first y % 7) (Cal.kind y) (Cal.leap y) m=true:=by unfold has;rw [hc];simp [m1,m2]
 refine⟨(m-1).toNat,x,by omega,e1, ?_, ?_,e3,e4,by rw [hc];omega⟩
 ·unfold dLen jo;rw [hh,if_pos rfl,e2]
 ·unfold ig bE;rw [hh,if_pos rfl];rfl
theorem Nu(y m:Int)(h1:1<=y)(h2:y<=9999)(m1:1<=m)(m2:m<=Cal.most (Cal.leap y)):29<=dLen y m/\dLen y m<=30:=by
 obtain⟨j,x,_,_,e,_,e1,e2,_⟩:=iw y m h1 h2 m1 m2
 omega
theorem RV(y m d:Int)(h1:1<=y)(h2:y<=9999)(m1:1<=m)(m2:m<=Cal.most (Cal.leap y))(d1:1<=d)(d2:d<=dLen y m):
  mU (Cal.first y % 7) (Cal.kind y) (Cal.leap y) (ig y m+d)=(m,d,true):=by
 obtain⟨j,x,e0,e1,e2,e3,_,_,e4⟩:=iw y m h1 h2 m1 m2
 rw [e3,e0]
 exact V5 _ _ _ j x d e4 e1 d1 (by omega)
theorem Pz(y r:Int)(h1:1<=y)(h2:y<=9999)(r1:1<=r)(r2:r<=Cal.long y):
  ∃m d,1<=m/\m<=Cal.most (Cal.leap y)/\1<=d/\d<=dLen y m/\r=ig y m+d:=by
 obtain⟨hc,hs,hl⟩:=uQ y h1 h2
 obtain⟨j,x,q,e1,e2,e3,e4⟩:=BI (ls y) r r1 (by omega)
 have hj:j<(ls y).length:=(List.getElem?_eq_some_iff.1 e1).1
 obtain⟨j',x',f0,f1,f2,f3,_⟩:=iw y ((j:Int)+1) h1 h2 (by omega) (by omega)
 obtain rfl:j'=j:=by omega
 rw [e1]at f1
 cases f1
 exact⟨(j':Int)+1,q,by omega,by omega,e2,by omega,by omega⟩
theorem JO(y:Int)(h1:1<=y)(h2:y<=9999):ig y 1=0:=by
 obtain⟨j,x,e0,e1,e2,e3,_⟩:=iw y 1 h1 h2 (by omega) (by unfold Cal.most;split <;> omega)
 obtain rfl:j=0:=by omega
 simpa using e3
theorem TL(y:Int)(h1:1<=y)(h2:y<=9999):ig y (Cal.most (Cal.leap y))+dLen y (Cal.most (Cal.leap y))=Cal.long y:=by
 obtain⟨hc,hs,hl⟩:=uQ y h1 h2
 have hm:1<=Cal.most (Cal.leap y):=by unfold Cal.most;split <;> omega
 obtain⟨j,x,e0,e1,e2,e3,_⟩:=iw y _ h1 h2 hm (Int.le_refl _)
 have:=og _ _ _ e1
 rw [List.take_of_length_le (by omega)]at this
 omega
theorem nL(y m m':Int)(h1:1<=y)(h2:y<=9999)(m1:1<=m)(hm:m<m')(m2:m'<=Cal.most (Cal.leap y)):ig y m+dLen y m<=ig y m':=by
 obtain⟨j,x,e0,e1,e2,e3,_⟩:=iw y m h1 h2 m1 (by omega)
 obtain⟨j',x',f0,f1,f2,f3,_⟩:=iw y m' h1 h2 (by omega) m2
 have:=su (ls y) (ls_nn y) (j+1) (j'-(j+1))
 rw [og _ _ _ e1,show j+1+(j'-(j+1))=j' by omega]at this
 omega
theorem Ri(y m:Int)(h1:1<=y)(h2:y<=9999)(m1:1<=m)(m2:m<=Cal.most (Cal.leap y)):0<=ig y m/\ig y m+dLen y m<=Cal.long y:=by
 have a1:=JO y h1 h2
 have a2:=TL y h1 h2
 have hm:1<=Cal.most (Cal.leap y):=by unfold Cal.most;split <;> omega
 have b1:=Nu y 1 h1 h2 (by omega) hm
 have b2:=Nu y _ h1 h2 hm (Int.le_refl _)
 refine⟨?_, ?_⟩
 ·by_cases c:m=1
  ·rw [c];omega
  ·have:=nL y 1 m h1 h2 (by omega) (by omega) m2;omega
 ·by_cases c:m=Cal.most (Cal.leap y)
  ·rw [c];omega
  ·have:=nL y m _ h1 h2 m1 (show m<Cal.most (Cal.leap y) by omega) (Int.le_refl _);omega
def aS(y m d:Int):Int:=Cal.first y+ig y m+d-1
def Valid(y m d:Int):Prop:=1<=y/\y<=9999/\1<=m/\m<=Cal.most (Cal.leap y)/\1<=d/\d<=dLen y m
theorem Af{y m d:Int}(h:Valid y m d):Cal.first y<=aS y m d/\aS y m d<Cal.first (y+1):=by
 obtain⟨h1,h2,m1,m2,d1,d2⟩:=h
 have:=Ri y m h1 h2 m1 m2
 have hl:Cal.long y=Cal.first (y+1)-Cal.first y:=rfl
 unfold aS;omega
theorem mG{y m d:Int}(h:Valid y m d): -1373427<=aS y m d/\aS y m d<=2278650:=by
 have h3:=Af h
 obtain⟨h1,h2,_⟩:=h
 have a:=dh 1 y (by omega) h1 (by omega)
 have b:=dh (y+1) 10000 (by omega) (by omega) (by omega)
 rw [uh]at a
 rw [lV]at b
 omega
theorem Ra{y m d:Int}(h:Valid y m d):mU (Cal.first y % 7) (Cal.kind y) (Cal.leap y) (aS y m d-Cal.first y+1)=(m,d,true):=by
 obtain⟨h1,h2,m1,m2,d1,d2⟩:=h
 rw [show aS y m d-Cal.first y+1=ig y m+d by unfold aS;omega]
 exact RV y m d h1 h2 m1 m2 d1 d2
theorem nX(D:Int)(h1: -1373427<=D)(h2:D<=2278650):∃y m d,Valid y m d/\D=aS y m d:=by
 obtain⟨y,y1,y2,f1,f2⟩:=Ub D h1 h2
 obtain⟨m,d,m1,m2,d1,d2,e⟩:=Pz y (D-Cal.first y+1) y1 y2 (by omega) (by unfold Cal.long;omega)
 exact⟨y,m,d,⟨y1,y2,m1,m2,d1,d2⟩,by unfold aS;omega⟩
theorem P9(lp:Bool)(n:Int)(l:Bool)(h:Cal.fV lp n l=true):1<=Cal.plV lp n l/\Cal.plV lp n l<=Cal.most lp/\Cal.ofN lp (Cal.plV lp n l)=n/\Cal.ofL lp (Cal.plV lp n l)=l:=by
 obtain⟨j,hj,e⟩:=Cx lp n l h
 obtain⟨e1,e2,e3⟩:=zJ lp j hj
 have h2:=BU lp j n l e
 have hl:=JX lp
 rw [e]at e1
 simp only [Option.some.injEq,Prod.mk.injEq]at e1
 rw [h2.2,←e1.1,←e1.2]
 refine⟨by omega, ?_,rfl,rfl⟩
 unfold Cal.most;split <;> simp_all <;> omega
def fI(y n:Int)(l:Bool):Int:=if Cal.bG y then(if Cal.fV (Cal.leap y) n l then 0 else 3)else 2
def lI(y n:Int)(l:Bool):Int:=if Cal.bG y&&Cal.fV (Cal.leap y) n l then dLen y (Cal.plV (Cal.leap y) n l)else 0
def bO(y n:Int)(l:Bool)(d:Int):Int:=if Cal.bG y then(if Cal.fV (Cal.leap y) n l then(if decide (1<=d)&&decide (d<=dLen y (Cal.plV (Cal.leap y) n l))then 0 else 4)else 3)else 2
def aC(y n:Int)(l:Bool)(d:Int):Int:=if bO y n l d=0 then aS y (Cal.plV (Cal.leap y) n l) d else 0
theorem DZ(y:Int)(h:Cal.bG y=true):1<=y/\y<=9999:=by simpa [Cal.bG]using h
theorem RJ(y:Int)(h:Cal.bG y=false):y<1∨9999<y:=by simp [Cal.bG]at h;omega
theorem jV{y n d:Int}{l:Bool}(h:bO y n l d=0):Valid y (Cal.plV (Cal.leap y) n l) d/\Cal.fV (Cal.leap y) n l=true:=by
 unfold bO at h
 split at h
 ·rename_i h1
  split at h
  ·rename_i h2
   split at h
   ·rename_i h3
    have:=DZ y h1
    have hp:=P9 _ _ _ h2
    simp only [Bool.and_eq_true,decide_eq_true_eq]at h3
    exact⟨⟨this.1,this.2,hp.1,hp.2.1,h3.1,h3.2⟩,h2⟩
   ·omega
  ·omega
 ·omega
end D10
end Go.Proofs.YthnjjcoahdhmnaaGreatDoor
