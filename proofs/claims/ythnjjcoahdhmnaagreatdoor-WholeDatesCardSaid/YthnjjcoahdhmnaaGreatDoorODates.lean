import Derived.Test.YthnjjcoahdhmnaaGreatDoorOMO
import Derived.Test.YthnjjcoahdhmnaaGreatDoorOKE
import Derived.Test.YthnjjcoahdhmnaaGreatDoorOCO
import Derived.Test.YthnjjcoahdhmnaaGreatDoorOLC
set_option maxHeartbeats 8000000
set_option maxRecDepth 100000
set_option linter.unusedVariables false
namespace Go.Proofs.YthnjjcoahdhmnaaGreatDoor
open Go.ChangeShapes Go.WideShapes Go.ChangeAt Go.RowKit
namespace D10
theorem RY:∀ (xs:List Int),(∀y∈xs,0<=y)->0<=xs.sum
 | [],_=>by simp
 |y :: ys,h=>by
  have h1:=h y (by simp)
  have h2:=RY ys (fun z hz=>h z (by simp [hz]))
  rw [List.sum_cons];omega
theorem Ls(r:Int)(hr:1<=r):∀ (j:Nat) (xs:List Int) (i x:Int),(∀y∈xs,0<=y)->xs[j]? =some x->r<=x->jy xs i ((xs.take j).sum+r)=(i+j,r,true)
 |0,[],_,_,_,h,_=>by simp at h
 |0,y :: ys,i,x,_,h,hx=>by
  simp only [List.getElem?_cons_zero,Option.some.injEq]at h
  subst h
  simp [jy,hx]
 |j+1,[],_,_,_,h,_=>by simp at h
 |j+1,y :: ys,i,x,hp,h,hx=>by
  have hy:=hp y (by simp)
  have hs:0<=(ys.take j).sum:=RY _ (fun z hz=>hp z (by simp [List.mem_of_mem_take hz]))
  have ih:=Ls r hr j ys (i+1) x (fun z hz=>hp z (by simp [hz])) (by simpa using h) hx
  rw [List.take_succ_cons,List.sum_cons,jy,if_neg (by omega),show y+(ys.take j).sum+r-y=(ys.take j).sum+r by omega,ih]
  simp only [Prod.mk.injEq,and_true]
  omega
theorem Sk(b k:Int)(l:Bool)(j:Nat)(x r:Int)(hj:(j:Int)+1<=cnt b k l)(hx:(lens k l)[j]? =some x)(h1:1<=r)(h2:r<=x):zC b k l (((lens k l).take j).sum+r)=((j:Int)+1,r,true):=by
 have hbd:=sZ k l
 have hs:=(Iw (lens k l) hbd j).1
 have hjn:j<(cnt b k l).toNat:=by omega
 unfold zC
 rw [if_neg (by omega)]
 have:=Ls r h1 j ((lens k l).take (cnt b k l).toNat) 1 x (fun y hy=>by have:=hbd y (List.mem_of_mem_take hy);omega) (by rw [List.getElem?_take_of_lt hjn];exact hx) h2
 rw [List.take_take,Nat.min_eq_left (by omega)]at this
 rw [this,Int.add_comm]
theorem NY(n:Nat)(hn:n<14):number (bS n) (jF n) (jE n)=(n:Int)+1:=by
 match n,hn with
 |0,_|1,_|2,_|3,_|4,_|5,_|6,_|7,_|8,_|9,_|10,_|11,_|12,_|13,_=>decide
theorem Ud(i:Nat)(hi:i<14):(lens (jF i) (jE i)).sum=353+jF i+if jE i then 30 else 0:=by
 match i,hi with
 |0,_|1,_|2,_|3,_|4,_|5,_|6,_|7,_|8,_|9,_|10,_|11,_|12,_|13,_=>decide
theorem Vh(i:Nat)(hi:i<14):cnt (bS i) (jF i) (jE i)=(lens (jF i) (jE i)).length:=O1 _ _ _ (by rw [NY i hi];omega)
theorem zJ:∀ (xs:List Int) (r:Int),1<=r->r<=xs.sum->∃ (j:Nat) (x q:Int),xs[j]? =some x/\1<=q/\q<=x/\r=(xs.take j).sum+q
 | [],r,h1,h2=>by simp at h2;omega
 | y :: ys,r,h1,h2=>by
  by_cases c:r<=y
  ·exact⟨0,y,r,by simp,h1,c,by simp⟩
  ·rw [List.sum_cons]at h2
   obtain⟨j,x,q,e1,e2,e3,e4⟩:=zJ ys (r-y) (by omega) (by omega)
   exact⟨j+1,x,q,by simpa using e1,e2,e3,by rw [List.take_succ_cons,List.sum_cons];omega⟩
theorem q9(xs:List Int)(h:∀x∈xs,0<=x)(a:Nat):∀n:Nat,(xs.take a).sum<=(xs.take (a+n)).sum
 |0=>Int.le_refl _
 | n+1=>by
  have ih:=q9 xs h a n
  cases e:xs[a+n]? with
  |none=>
   have:xs.length<=a+n:=by simpa using e
   rw [List.take_of_length_le this]at ih
   rw [List.take_of_length_le (show xs.length<=a+(n+1) by omega)]
   exact ih
  |some x=>
   have:=nV xs (a+n) x e
   have hx:=h x (List.mem_of_getElem? e)
   rw [show a+(n+1)=a+n+1 by omega]
   omega
def ls(y:Int):List Int:=lens (Cal.kind y) (Cal.leap y)
def dLen(y m:Int):Int:=pq (Cal.first y % 7) (Cal.kind y) (Cal.leap y) m
def iU(y m:Int):Int:=jc (Cal.first y % 7) (Cal.kind y) (Cal.leap y) m
theorem uT(y:Int)(h1:1<=y)(h2:y<=9999):cnt (Cal.first y % 7) (Cal.kind y) (Cal.leap y)=Cal.most (Cal.leap y)/\(ls y).sum=Cal.long y/\((ls y).length:Int)=Cal.most (Cal.leap y):=by
 have hk:Cal.long y=Cal.kind y+(if Cal.leap y then 383 else 353):=by unfold Cal.kind;omega
 obtain⟨i,hi,e1,e2,e3⟩:=MG y h1 h2
 have hl:=lQ (Cal.kind y) (Cal.leap y)
 have hc:=Vh i hi
 have hs:=Ud i hi
 rw [←e1,←e2,←e3]at hc
 rw [←e2,←e3]at hs
 unfold ls Cal.most
 rw [hc,hs,hl,hk]
 cases Cal.leap y <;> simp <;> omega
theorem ls_bd(y:Int):∀x∈ls y,29<=x/\x<=30:=sZ _ _
theorem ls_nn(y:Int):∀x∈ls y,0<=x:=fun x hx=>by have:=ls_bd y x hx;omega
theorem fB(y m:Int)(h1:1<=y)(h2:y<=9999)(m1:1<=m)(m2:m<=Cal.most (Cal.leap y)):
  ∃ (j:Nat) (x:Int),m=(j:Int)+1/\(ls y)[j]? =some x/\dLen y m=x/\iU y m=((ls y).take j).sum/\29<=x/\x<=30/\(j:Int)+1<=cnt (Cal.first y % 7) (Cal.kind y) (Cal.leap y):=by
 obtain⟨hc,hs,hl⟩:=uT y h1 h2
 obtain⟨x,e1,e2,e3,e4⟩:=Jm (Cal.kind y) (Cal.leap y) (m-1).toNat (by change (m-1).toNat<(ls y).length;omega)
 have hh:has (Cal.first y % 7) (Cal.kind y) (Cal.leap y) m=true:=by unfold has;rw [hc];simp [m1,m2]
 refine⟨(m-1).toNat,x,by omega,e1, ?_, ?_,e3,e4,by rw [hc];omega⟩
 ·unfold dLen pq;rw [hh,if_pos rfl,e2]
 ·unfold iU jc;rw [hh,if_pos rfl];rfl
theorem jQ(y m:Int)(h1:1<=y)(h2:y<=9999)(m1:1<=m)(m2:m<=Cal.most (Cal.leap y)):29<=dLen y m/\dLen y m<=30:=by
 obtain⟨j,x,_,_,e,_,e1,e2,_⟩:=fB y m h1 h2 m1 m2
 omega
theorem Ol(y m d:Int)(h1:1<=y)(h2:y<=9999)(m1:1<=m)(m2:m<=Cal.most (Cal.leap y))(d1:1<=d)(d2:d<=dLen y m):
  zC (Cal.first y % 7) (Cal.kind y) (Cal.leap y) (iU y m+d)=(m,d,true):=by
 obtain⟨j,x,e0,e1,e2,e3,_,_,e4⟩:=fB y m h1 h2 m1 m2
 rw [e3,e0]
 exact Sk _ _ _ j x d e4 e1 d1 (by omega)
theorem Lu(y r:Int)(h1:1<=y)(h2:y<=9999)(r1:1<=r)(r2:r<=Cal.long y):
  ∃m d,1<=m/\m<=Cal.most (Cal.leap y)/\1<=d/\d<=dLen y m/\r=iU y m+d:=by
 obtain⟨hc,hs,hl⟩:=uT y h1 h2
 obtain⟨j,x,q,e1,e2,e3,e4⟩:=zJ (ls y) r r1 (by omega)
 have hj:j<(ls y).length:=(List.getElem?_eq_some_iff.1 e1).1
 obtain⟨j',x',f0,f1,f2,f3,_⟩:=fB y ((j:Int)+1) h1 h2 (by omega) (by omega)
 obtain rfl:j'=j:=by omega
 rw [e1]at f1
 cases f1
 exact⟨(j':Int)+1,q,by omega,by omega,e2,by omega,by omega⟩
theorem NJ(y m:Int)(h1:1<=y)(h2:y<=9999)(m1:1<=m)(m2:m+1<=Cal.most (Cal.leap y)):iU y (m+1)=iU y m+dLen y m:=by
 obtain⟨j,x,e0,e1,e2,e3,_⟩:=fB y m h1 h2 m1 (by omega)
 obtain⟨j',x',f0,f1,f2,f3,_⟩:=fB y (m+1) h1 h2 (by omega) m2
 obtain rfl:j'=j+1:=by omega
 rw [f3,nV _ _ _ e1];omega
theorem sU(y:Int)(h1:1<=y)(h2:y<=9999):iU y 1=0:=by
 obtain⟨j,x,e0,e1,e2,e3,_⟩:=fB y 1 h1 h2 (by omega) (by unfold Cal.most;split <;> omega)
 obtain rfl:j=0:=by omega
 simpa using e3
theorem uP(y:Int)(h1:1<=y)(h2:y<=9999):iU y (Cal.most (Cal.leap y))+dLen y (Cal.most (Cal.leap y))=Cal.long y:=by
 obtain⟨hc,hs,hl⟩:=uT y h1 h2
 have hm:1<=Cal.most (Cal.leap y):=by unfold Cal.most;split <;> omega
 obtain⟨j,x,e0,e1,e2,e3,_⟩:=fB y _ h1 h2 hm (Int.le_refl _)
 have:=nV _ _ _ e1
 rw [List.take_of_length_le (by omega)]at this
 omega
theorem om(y m m':Int)(h1:1<=y)(h2:y<=9999)(m1:1<=m)(hm:m<m')(m2:m'<=Cal.most (Cal.leap y)):iU y m+dLen y m<=iU y m':=by
 obtain⟨j,x,e0,e1,e2,e3,_⟩:=fB y m h1 h2 m1 (by omega)
 obtain⟨j',x',f0,f1,f2,f3,_⟩:=fB y m' h1 h2 (by omega) m2
 have:=q9 (ls y) (ls_nn y) (j+1) (j'-(j+1))
 rw [nV _ _ _ e1,show j+1+(j'-(j+1))=j' by omega]at this
 omega
theorem Rz(y m:Int)(h1:1<=y)(h2:y<=9999)(m1:1<=m)(m2:m<=Cal.most (Cal.leap y)):0<=iU y m/\iU y m+dLen y m<=Cal.long y:=by
 have a1:=sU y h1 h2
 have a2:=uP y h1 h2
 have hm:1<=Cal.most (Cal.leap y):=by unfold Cal.most;split <;> omega
 have b1:=jQ y 1 h1 h2 (by omega) hm
 have b2:=jQ y _ h1 h2 hm (Int.le_refl _)
 refine⟨?_, ?_⟩
 ·by_cases c:m=1
  ·rw [c];omega
  ·have:=om y 1 m h1 h2 (by omega) (by omega) m2;omega
 ·by_cases c:m=Cal.most (Cal.leap y)
  ·rw [c];omega
  ·have:=om y m _ h1 h2 m1 (show m<Cal.most (Cal.leap y) by omega) (Int.le_refl _);omega
def bn(y m d:Int):Int:=Cal.first y+iU y m+d-1
def Valid(y m d:Int):Prop:=1<=y/\y<=9999/\1<=m/\m<=Cal.most (Cal.leap y)/\1<=d/\d<=dLen y m
theorem Ew{y m d:Int}(h:Valid y m d):Cal.first y<=bn y m d/\bn y m d<Cal.first (y+1):=by
 obtain⟨h1,h2,m1,m2,d1,d2⟩:=h
 have:=Rz y m h1 h2 m1 m2
 have hl:Cal.long y=Cal.first (y+1)-Cal.first y:=rfl
 unfold bn;omega
theorem Jf{y m d:Int}(h:Valid y m d): -1373427<=bn y m d/\bn y m d<=2278650:=by
 have h3:=Ew h
 obtain⟨h1,h2,_⟩:=h
 have a:=dM 1 y (by omega) h1 (by omega)
 have b:=dM (y+1) 10000 (by omega) (by omega) (by omega)
 rw [sj]at a
 rw [oz]at b
 omega
theorem Tw{y m d:Int}(h:Valid y m d):zC (Cal.first y % 7) (Cal.kind y) (Cal.leap y) (bn y m d-Cal.first y+1)=(m,d,true):=by
 obtain⟨h1,h2,m1,m2,d1,d2⟩:=h
 rw [show bn y m d-Cal.first y+1=iU y m+d by unfold bn;omega]
 exact Ol y m d h1 h2 m1 m2 d1 d2
theorem sN(D:Int)(h1: -1373427<=D)(h2:D<=2278650):∃y m d,Valid y m d/\D=bn y m d:=by
 obtain⟨y,y1,y2,f1,f2⟩:=Qa D h1 h2
 obtain⟨m,d,m1,m2,d1,d2,e⟩:=Lu y (D-Cal.first y+1) y1 y2 (by omega) (by unfold Cal.long;omega)
 exact⟨y,m,d,⟨y1,y2,m1,m2,d1,d2⟩,by unfold bn;omega⟩
theorem Fa{y m d y' m' d':Int}(h:Valid y m d)(h':Valid y' m' d')(hl:y<y'∨y=y'/\(m<m'∨m=m'/\d<d')):bn y m d<bn y' m' d':=by
 have a:=Ew h
 have b:=Ew h'
 obtain⟨h1,h2,m1,m2,d1,d2⟩:=h
 obtain⟨h1',h2',m1',m2',d1',d2'⟩:=h'
 rcases hl with c|⟨rfl,c|⟨rfl,c⟩⟩
 ·have:=dM (y+1) y' (by omega) (by omega) (by omega)
  omega
 ·have:=om y m m' h1 h2 m1 c m2'
  unfold bn;omega
 ·unfold bn;omega
theorem VP{y m d y' m' d':Int}(h:Valid y m d)(h':Valid y' m' d')(e:bn y m d=bn y' m' d'):y=y'/\m=m'/\d=d':=by
 by_cases c:y<y'∨y=y'/\(m<m'∨m=m'/\d<d')
 ·have:=Fa h h' c;omega
 ·by_cases c':y'<y∨y'=y/\(m'<m∨m'=m/\d'<d)
  ·have:=Fa h' h c';omega
  ·omega
theorem UM{y m d y' m' d':Int}(h:Valid y m d)(h':Valid y' m' d'):bn y m d<bn y' m' d'↔(y<y'∨y=y'/\(m<m'∨m=m'/\d<d')):=by
 refine⟨fun c=> ?_,Fa h h'⟩
 by_cases k:y<y'∨y=y'/\(m<m'∨m=m'/\d<d')
 ·exact k
 ·by_cases c':y'<y∨y'=y/\(m'<m∨m'=m/\d'<d)
  ·have:=Fa h' h c';omega
  ·obtain⟨rfl,rfl,rfl⟩:y=y'/\m=m'/\d=d':=by omega
   omega
theorem jM(lp:Bool)(n:Int)(l:Bool)(h:Cal.dJ lp n l=true):1<=Cal.plV lp n l/\Cal.plV lp n l<=Cal.most lp/\Cal.ofN lp (Cal.plV lp n l)=n/\Cal.ofL lp (Cal.plV lp n l)=l:=by
 obtain⟨j,hj,e⟩:=MP lp n l h
 obtain⟨e1,e2,e3⟩:=Di lp j hj
 have h2:=Mj lp j n l e
 have hl:=zY lp
 rw [e]at e1
 simp only [Option.some.injEq,Prod.mk.injEq]at e1
 rw [h2.2,←e1.1,←e1.2]
 refine⟨by omega, ?_,rfl,rfl⟩
 unfold Cal.most;split <;> simp_all <;> omega
theorem p8(lp:Bool)(m:Int)(h1:1<=m)(h2:m<=Cal.most lp):Cal.jZ lp m=true/\Cal.dJ lp (Cal.ofN lp m) (Cal.ofL lp m)=true/\Cal.plV lp (Cal.ofN lp m) (Cal.ofL lp m)=m:=by
 have hl:=zY lp
 obtain⟨_,h3,h4⟩:=Di lp (m-1).toNat (by rw [hl];unfold Cal.most at h2;split at h2 <;> simp_all <;> omega)
 rw [show(((m-1).toNat:Nat):Int)+1=m by omega]at h3 h4
 exact⟨by simp [Cal.jZ,h1,h2],h3,h4⟩
def Ui(lp:Bool):Bool:=(List.range (jk lp 12).length).all fun i=>(List.range (jk lp 12).length).all fun j=>Cal.nC (Cal.ofN lp ((i:Int)+1)) (Cal.ofL lp ((i:Int)+1)) (Cal.ofN lp ((j:Int)+1)) (Cal.ofL lp ((j:Int)+1))==decide (i<j)
theorem Oa(lp:Bool):Ui lp=true:=by cases lp <;> decide+kernel
theorem NC(lp:Bool)(n k:Int)(l h:Bool)(h1:Cal.dJ lp n l=true)(h2:Cal.dJ lp k h=true):Cal.nC n l k h=decide (Cal.plV lp n l<Cal.plV lp k h):=by
 obtain⟨a1,a2,a3,a4⟩:=jM lp n l h1
 obtain⟨b1,b2,b3,b4⟩:=jM lp k h h2
 have hl:=zY lp
 have hm:((jk lp 12).length:Int)=Cal.most lp:=by rw [hl];unfold Cal.most;cases lp <;> rfl
 have:=List.all_eq_true.1 (Oa lp) (Cal.plV lp n l-1).toNat (List.mem_range.2 (by omega))
 have:=List.all_eq_true.1 this (Cal.plV lp k h-1).toNat (List.mem_range.2 (by omega))
 rw [show(((Cal.plV lp n l-1).toNat:Nat):Int)+1=Cal.plV lp n l by omega,show(((Cal.plV lp k h-1).toNat:Nat):Int)+1=Cal.plV lp k h by omega,a3,a4,b3,b4]at this
 rw [eq_of_beq this]
 exact decide_eq_decide.2 (by omega)
def bq(y n:Int)(l:Bool):Int:=if Cal.bP y then(if Cal.dJ (Cal.leap y) n l then 0 else 3)else 2
def aZ(y n:Int)(l:Bool):Int:=if Cal.bP y&&Cal.dJ (Cal.leap y) n l then dLen y (Cal.plV (Cal.leap y) n l)else 0
def aB(y n:Int)(l:Bool)(d:Int):Int:=if Cal.bP y then(if Cal.dJ (Cal.leap y) n l then(if decide (1<=d)&&decide (d<=dLen y (Cal.plV (Cal.leap y) n l))then 0 else 4)else 3)else 2
def aF(y n:Int)(l:Bool)(d:Int):Int:=if aB y n l d=0 then bn y (Cal.plV (Cal.leap y) n l) d else 0
theorem mZ(y:Int)(h:Cal.bP y=true):1<=y/\y<=9999:=by simpa [Cal.bP]using h
theorem EF(y:Int)(h:Cal.bP y=false):y<1∨9999<y:=by simp [Cal.bP]at h;omega
theorem bG{y n d:Int}{l:Bool}(h:aB y n l d=0):Valid y (Cal.plV (Cal.leap y) n l) d/\Cal.dJ (Cal.leap y) n l=true:=by
 unfold aB at h
 split at h
 ·rename_i h1
  split at h
  ·rename_i h2
   split at h
   ·rename_i h3
    have:=mZ y h1
    have hp:=jM _ _ _ h2
    simp only [Bool.and_eq_true,decide_eq_true_eq]at h3
    exact⟨⟨this.1,this.2,hp.1,hp.2.1,h3.1,h3.2⟩,h2⟩
   ·omega
  ·omega
 ·omega
theorem uZ{y m d:Int}(h:Valid y m d):aB y (Cal.ofN (Cal.leap y) m) (Cal.ofL (Cal.leap y) m) d=0/\aF y (Cal.ofN (Cal.leap y) m) (Cal.ofL (Cal.leap y) m) d=bn y m d:=by
 obtain⟨h1,h2,m1,m2,d1,d2⟩:=h
 obtain⟨_,e2,e3⟩:=p8 _ m m1 m2
 have:aB y (Cal.ofN (Cal.leap y) m) (Cal.ofL (Cal.leap y) m) d=0:=by
  unfold aB;rw [Cal.dD y h1 h2,e2,e3];simp [d1,d2]
 exact⟨this,by unfold aF;rw [this,e3,if_pos rfl]⟩
end D10
end Go.Proofs.YthnjjcoahdhmnaaGreatDoor
