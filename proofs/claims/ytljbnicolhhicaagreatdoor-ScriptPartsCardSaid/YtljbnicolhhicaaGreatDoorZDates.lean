import Derived.Test.YtljbnicolhhicaaGreatDoorZMO
import Derived.Test.YtljbnicolhhicaaGreatDoorZCO
import Derived.Test.YtljbnicolhhicaaGreatDoorZLC
set_option maxHeartbeats 8000000
set_option maxRecDepth 100000
set_option linter.unusedVariables false
namespace Go.Proofs.YtljbnicolhhicaaGreatDoor
open Go.ChangeShapes Go.WideShapes Go.ChangeAt Go.RowKit
namespace D10
theorem Yo:∀ (xs:List Int),(∀y∈xs,0<=y)->0<=xs.sum
 | [],_=>by simp
 |y :: ys,h=>by
  have h1:=h y vS
  have h2:=Yo ys (fun z hz=>h z (by simp [hz]))
  rw [List.sum_cons];omega
theorem Rq(r:Int)(hr:1<=r):∀ (j:Nat) (xs:List Int) (i x:Int),(∀y∈xs,0<=y)->xs[j]? =some x->r<=x->nA xs i ((xs.take j).sum+r)=(i+j,r,true)
 |0,[],_,_,_,h,_=>by simp at h
 |0,y :: ys,i,x,_,h,hx=>by
  simp only [List.getElem?_cons_zero,Option.some.injEq]at h
  subst h
  simp [nA,hx]
 |j+1,[],_,_,_,h,_=>by simp at h
 |j+1,y :: ys,i,x,hp,h,hx=>by
  have hy:=hp y vS
  have hs:0<=(ys.take j).sum:=Yo _ (fun z hz=>hp z (by simp [List.mem_of_mem_take hz]))
  have ih:=Rq r hr j ys (i+1) x (fun z hz=>hp z (by simp [hz])) (by simpa using h) hx
  rw [List.take_succ_cons,List.sum_cons,nA,if_neg vO,show y+(ys.take j).sum+r-y=(ys.take j).sum+r by omega,ih]
  simp only [Prod.mk.injEq,and_true]
  omega
theorem Xz(b k:Int)(l:Bool)(j:Nat)(x r:Int)(hj:(j:Int)+1<=cnt b k l)(hx:(lens k l)[j]? =some x)(h1:1<=r)(h2:r<=x):BX b k l (((lens k l).take j).sum+r)=((j:Int)+1,r,true):=by
 have hbd:=zV k l
 have hs:=(ME (lens k l) hbd j).1
 have hjn:j<(cnt b k l).toNat:=vO
 unfold BX
 rw [if_neg vO]
 have:=Rq r h1 j ((lens k l).take (cnt b k l).toNat) 1 x (fun y hy=>by have:=hbd y (List.mem_of_mem_take hy);omega) (by rw [List.getElem?_take_of_lt hjn];exact hx) h2
 rw [List.take_take,Nat.min_eq_left vO]at this
 rw [this,Int.add_comm]
theorem Uc(n:Nat)(hn:n<14):number (dz n) (kV n) (kS n)=(n:Int)+1:=by
 match n,hn with
 |0,_|1,_|2,_|3,_|4,_|5,_|6,_|7,_|8,_|9,_|10,_|11,_|12,_|13,_=>decide
theorem aag(i:Nat)(hi:i<14):(lens (kV i) (kS i)).sum=353+kV i+if kS i then 30 else 0:=by
 match i,hi with
 |0,_|1,_|2,_|3,_|4,_|5,_|6,_|7,_|8,_|9,_|10,_|11,_|12,_|13,_=>decide
theorem aaD(i:Nat)(hi:i<14):cnt (dz i) (kV i) (kS i)=(lens (kV i) (kS i)).length:=UW _ _ _ (by rw [Uc i hi];omega)
theorem LM:∀ (xs:List Int) (r:Int),1<=r->r<=xs.sum->∃ (j:Nat) (x q:Int),xs[j]? =some x/\1<=q/\q<=x/\r=(xs.take j).sum+q
 | [],r,h1,h2=>by simp at h2;omega
 | y :: ys,r,h1,h2=>by
  by_cases c:r<=y
  ·exact⟨0,y,r,vS,h1,c,vS⟩
  ·rw [List.sum_cons]at h2
   obtain⟨j,x,q,e1,e2,e3,e4⟩:=LM ys (r-y) vO vO
   exact⟨j+1,x,q,by simpa using e1,e2,e3,by rw [List.take_succ_cons,List.sum_cons];omega⟩
theorem zR(xs:List Int)(h:∀x∈xs,0<=x)(a:Nat):∀n:Nat,(xs.take a).sum<=(xs.take (a+n)).sum
 |0=>Int.le_refl _
 | n+1=>by
  have ih:=zR xs h a n
  cases e:xs[a+n]? with
  |none=>
   have:xs.length<=a+n:=by simpa using e
   rw [List.take_of_length_le this]at ih
   rw [List.take_of_length_le (show xs.length<=a+(n+1) by omega)]
   exact ih
  |some x=>
   have:=oq xs (a+n) x e
   have hx:=h x (List.mem_of_getElem? e)
   rw [show a+(n+1)=a+n+1 by omega]
   omega
def ls(y:Int):List Int:=lens (Cal.kind y) (Cal.leap y)
def dLen(y m:Int):Int:=uI (Cal.first y % 7) (Cal.kind y) (Cal.leap y) m
def jr(y m:Int):Int:=jM (Cal.first y % 7) (Cal.kind y) (Cal.leap y) m
theorem Bo(y:Int)(h1:1<=y)(h2:y<=9999):cnt (Cal.first y % 7) (Cal.kind y) (Cal.leap y)=Cal.most (Cal.leap y)/\(ls y).sum=Cal.long y/\((ls y).length:Int)=Cal.most (Cal.leap y):=by
 have hk:Cal.long y=Cal.kind y+(if Cal.leap y then 383 else 353):=by unfold Cal.kind;omega
 obtain⟨i,hi,e1,e2,e3⟩:=R6 y h1 h2
 have hl:=nY (Cal.kind y) (Cal.leap y)
 have hc:=aaD i hi
 have hs:=aag i hi
 rw [←e1,←e2,←e3]at hc
 rw [←e2,←e3]at hs
 unfold ls Cal.most
 rw [hc,hs,hl,hk]
 cases Cal.leap y <;> simp <;> omega
theorem acD(y:Int):∀x∈ls y,29<=x/\x<=30:=zV _ _
theorem ls_nn(y:Int):∀x∈ls y,0<=x:=fun x hx=>by have:=acD y x hx;omega
theorem dY(y m:Int)(h1:1<=y)(h2:y<=9999)(m1:1<=m)(m2:m<=Cal.most (Cal.leap y)):
  ∃ (j:Nat) (x:Int),m=(j:Int)+1/\(ls y)[j]? =some x/\dLen y m=x/\jr y m=((ls y).take j).sum/\29<=x/\x<=30/\(j:Int)+1<=cnt (Cal.first y % 7) (Cal.kind y) (Cal.leap y):=by
 obtain⟨hc,hs,hl⟩:=Bo y h1 h2
 obtain⟨x,e1,e2,e3,e4⟩:=NC (Cal.kind y) (Cal.leap y) (m-1).toNat (by change (m-1).toNat<(ls y).length;omega)
 have hh:has (Cal.first y % 7) (Cal.kind y) (Cal.leap y) m=true:=by unfold has;rw [hc];simp [m1,m2]
 refine⟨(m-1).toNat,x,vO,e1, ?_, ?_,e3,e4,by rw [hc];omega⟩
 ·unfold dLen uI;rw [hh,if_pos rfl,e2]
 ·unfold jr jM;rw [hh,if_pos rfl];rfl
theorem j5(y m:Int)(h1:1<=y)(h2:y<=9999)(m1:1<=m)(m2:m<=Cal.most (Cal.leap y)):29<=dLen y m/\dLen y m<=30:=by
 obtain⟨j,x,_,_,e,_,e1,e2,_⟩:=dY y m h1 h2 m1 m2
 omega
theorem TY(y m d:Int)(h1:1<=y)(h2:y<=9999)(m1:1<=m)(m2:m<=Cal.most (Cal.leap y))(d1:1<=d)(d2:d<=dLen y m):
  BX (Cal.first y % 7) (Cal.kind y) (Cal.leap y) (jr y m+d)=(m,d,true):=by
 obtain⟨j,x,e0,e1,e2,e3,_,_,e4⟩:=dY y m h1 h2 m1 m2
 rw [e3,e0]
 exact Xz _ _ _ j x d e4 e1 d1 vO
theorem P6(y r:Int)(h1:1<=y)(h2:y<=9999)(r1:1<=r)(r2:r<=Cal.long y):
  ∃m d,1<=m/\m<=Cal.most (Cal.leap y)/\1<=d/\d<=dLen y m/\r=jr y m+d:=by
 obtain⟨hc,hs,hl⟩:=Bo y h1 h2
 obtain⟨j,x,q,e1,e2,e3,e4⟩:=LM (ls y) r r1 vO
 have hj:j<(ls y).length:=(List.getElem?_eq_some_iff.1 e1).1
 obtain⟨j',x',f0,f1,f2,f3,_⟩:=dY y ((j:Int)+1) h1 h2 vO vO
 obtain rfl:j'=j:=vO
 rw [e1]at f1
 cases f1
 exact⟨(j':Int)+1,q,vO,vO,e2,vO,vO⟩
theorem TW(y m:Int)(h1:1<=y)(h2:y<=9999)(m1:1<=m)(m2:m+1<=Cal.most (Cal.leap y)):jr y (m+1)=jr y m+dLen y m:=by
 obtain⟨j,x,e0,e1,e2,e3,_⟩:=dY y m h1 h2 m1 vO
 obtain⟨j',x',f0,f1,f2,f3,_⟩:=dY y (m+1) h1 h2 vO m2
 obtain rfl:j'=j+1:=vO
 rw [f3,oq _ _ _ e1];omega
theorem LD(y:Int)(h1:1<=y)(h2:y<=9999):jr y 1=0:=by
 obtain⟨j,x,e0,e1,e2,e3,_⟩:=dY y 1 h1 h2 vO (by unfold Cal.most;split <;> omega)
 obtain rfl:j=0:=vO
 simpa using e3
theorem Tm(y:Int)(h1:1<=y)(h2:y<=9999):jr y (Cal.most (Cal.leap y))+dLen y (Cal.most (Cal.leap y))=Cal.long y:=by
 obtain⟨hc,hs,hl⟩:=Bo y h1 h2
 have hm:1<=Cal.most (Cal.leap y):=by unfold Cal.most;split <;> omega
 obtain⟨j,x,e0,e1,e2,e3,_⟩:=dY y _ h1 h2 hm (Int.le_refl _)
 have:=oq _ _ _ e1
 rw [List.take_of_length_le vO]at this
 omega
theorem Jr(y m m':Int)(h1:1<=y)(h2:y<=9999)(m1:1<=m)(hm:m<m')(m2:m'<=Cal.most (Cal.leap y)):jr y m+dLen y m<=jr y m':=by
 obtain⟨j,x,e0,e1,e2,e3,_⟩:=dY y m h1 h2 m1 vO
 obtain⟨j',x',f0,f1,f2,f3,_⟩:=dY y m' h1 h2 vO m2
 have:=zR (ls y) (ls_nn y) (j+1) (j'-(j+1))
 rw [oq _ _ _ e1,show j+1+(j'-(j+1))=j' by omega]at this
 omega
theorem YX(y m:Int)(h1:1<=y)(h2:y<=9999)(m1:1<=m)(m2:m<=Cal.most (Cal.leap y)):0<=jr y m/\jr y m+dLen y m<=Cal.long y:=by
 have a1:=LD y h1 h2
 have a2:=Tm y h1 h2
 have hm:1<=Cal.most (Cal.leap y):=by unfold Cal.most;split <;> omega
 have b1:=j5 y 1 h1 h2 vO hm
 have b2:=j5 y _ h1 h2 hm (Int.le_refl _)
 refine⟨?_, ?_⟩
 ·by_cases c:m=1
  ·rw [c];omega
  ·have:=Jr y 1 m h1 h2 vO vO m2;omega
 ·by_cases c:m=Cal.most (Cal.leap y)
  ·rw [c];omega
  ·have:=Jr y m _ h1 h2 m1 (show m<Cal.most (Cal.leap y) by omega) (Int.le_refl _);omega
def bA(y m d:Int):Int:=Cal.first y+jr y m+d-1
def Valid(y m d:Int):Prop:=1<=y/\y<=9999/\1<=m/\m<=Cal.most (Cal.leap y)/\1<=d/\d<=dLen y m
theorem Ep{y m d:Int}(h:Valid y m d):Cal.first y<=bA y m d/\bA y m d<Cal.first (y+1):=by
 obtain⟨h1,h2,m1,m2,d1,d2⟩:=h
 have:=YX y m h1 h2 m1 m2
 have hl:Cal.long y=Cal.first (y+1)-Cal.first y:=rfl
 unfold bA;omega
theorem Im{y m d:Int}(h:Valid y m d): -1373427<=bA y m d/\bA y m d<=2278650:=by
 have h3:=Ep h
 obtain⟨h1,h2,_⟩:=h
 have a:=fC 1 y vO h1 vO
 have b:=fC (y+1) 10000 vO vO vO
 rw [nL]at a
 rw [Bh]at b
 omega
theorem X9{y m d:Int}(h:Valid y m d):BX (Cal.first y % 7) (Cal.kind y) (Cal.leap y) (bA y m d-Cal.first y+1)=(m,d,true):=by
 obtain⟨h1,h2,m1,m2,d1,d2⟩:=h
 rw [show bA y m d-Cal.first y+1=jr y m+d by unfold bA;omega]
 exact TY y m d h1 h2 m1 m2 d1 d2
theorem qQ(D:Int)(h1: -1373427<=D)(h2:D<=2278650):∃y m d,Valid y m d/\D=bA y m d:=by
 obtain⟨y,y1,y2,f1,f2⟩:=U4 D h1 h2
 obtain⟨m,d,m1,m2,d1,d2,e⟩:=P6 y (D-Cal.first y+1) y1 y2 vO (by unfold Cal.long;omega)
 exact⟨y,m,d,⟨y1,y2,m1,m2,d1,d2⟩,by unfold bA;omega⟩
theorem SY{y m d y' m' d':Int}(h:Valid y m d)(h':Valid y' m' d')(hl:y<y'∨y=y'/\(m<m'∨m=m'/\d<d')):bA y m d<bA y' m' d':=by
 have a:=Ep h
 have b:=Ep h'
 obtain⟨h1,h2,m1,m2,d1,d2⟩:=h
 obtain⟨h1',h2',m1',m2',d1',d2'⟩:=h'
 rcases hl with c|⟨rfl,c|⟨rfl,c⟩⟩
 ·have:=fC (y+1) y' vO vO vO
  omega
 ·have:=Jr y m m' h1 h2 m1 c m2'
  unfold bA;omega
 ·unfold bA;omega
theorem aac{y m d y' m' d':Int}(h:Valid y m d)(h':Valid y' m' d'):bA y m d<bA y' m' d'↔(y<y'∨y=y'/\(m<m'∨m=m'/\d<d')):=by
 refine⟨fun c=> ?_,SY h h'⟩
 by_cases k:y<y'∨y=y'/\(m<m'∨m=m'/\d<d')
 ·exact k
 ·by_cases c':y'<y∨y'=y/\(m'<m∨m'=m/\d'<d)
  ·have:=SY h' h c';omega
  ·obtain⟨rfl,rfl,rfl⟩:y=y'/\m=m'/\d=d':=vO
   omega
theorem iF(lp:Bool)(n:Int)(l:Bool)(h:Cal.dH lp n l=true):1<=Cal.plV lp n l/\Cal.plV lp n l<=Cal.most lp/\Cal.ofN lp (Cal.plV lp n l)=n/\Cal.ofL lp (Cal.plV lp n l)=l:=by
 obtain⟨j,hj,e⟩:=PD lp n l h
 obtain⟨e1,e2,e3⟩:=JZ lp j hj
 have h2:=PY lp j n l e
 have hl:=DT lp
 rw [e]at e1
 simp only [Option.some.injEq,Prod.mk.injEq]at e1
 rw [h2.2,←e1.1,←e1.2]
 refine⟨vO, ?_,rfl,rfl⟩
 unfold Cal.most;split <;> simp_all <;> omega
theorem IL(lp:Bool)(m:Int)(h1:1<=m)(h2:m<=Cal.most lp):Cal.qo lp m=true/\Cal.dH lp (Cal.ofN lp m) (Cal.ofL lp m)=true/\Cal.plV lp (Cal.ofN lp m) (Cal.ofL lp m)=m:=by
 have hl:=DT lp
 obtain⟨_,h3,h4⟩:=JZ lp (m-1).toNat (by rw [hl];unfold Cal.most at h2;split at h2 <;> simp_all <;> omega)
 rw [show(((m-1).toNat:Nat):Int)+1=m by omega]at h3 h4
 exact⟨by simp [Cal.qo,h1,h2],h3,h4⟩
def aar(lp:Bool):Bool:=(List.range (jY lp 12).length).all fun i=>(List.range (jY lp 12).length).all fun j=>Cal.pQ (Cal.ofN lp ((i:Int)+1)) (Cal.ofL lp ((i:Int)+1)) (Cal.ofN lp ((j:Int)+1)) (Cal.ofL lp ((j:Int)+1))==decide (i<j)
theorem Uo(lp:Bool):aar lp=true:=by cases lp <;> decide+kernel
theorem TL(lp:Bool)(n k:Int)(l h:Bool)(h1:Cal.dH lp n l=true)(h2:Cal.dH lp k h=true):Cal.pQ n l k h=decide (Cal.plV lp n l<Cal.plV lp k h):=by
 obtain⟨a1,a2,a3,a4⟩:=iF lp n l h1
 obtain⟨b1,b2,b3,b4⟩:=iF lp k h h2
 have hl:=DT lp
 have hm:((jY lp 12).length:Int)=Cal.most lp:=by rw [hl];unfold Cal.most;cases lp <;> rfl
 have:=List.all_eq_true.1 (Uo lp) (Cal.plV lp n l-1).toNat (List.mem_range.2 vO)
 have:=List.all_eq_true.1 this (Cal.plV lp k h-1).toNat (List.mem_range.2 vO)
 rw [show(((Cal.plV lp n l-1).toNat:Nat):Int)+1=Cal.plV lp n l by omega,show(((Cal.plV lp k h-1).toNat:Nat):Int)+1=Cal.plV lp k h by omega,a3,a4,b3,b4]at this
 rw [eq_of_beq this]
 exact decide_eq_decide.2 vO
def bO(y n:Int)(l:Bool):Int:=if Cal.dA y then(if Cal.dH (Cal.leap y) n l then 0 else 3)else 2
def aY(y n:Int)(l:Bool):Int:=if Cal.dA y&&Cal.dH (Cal.leap y) n l then dLen y (Cal.plV (Cal.leap y) n l)else 0
def aK(y n:Int)(l:Bool)(d:Int):Int:=if Cal.dA y then(if Cal.dH (Cal.leap y) n l then(if decide (1<=d)&&decide (d<=dLen y (Cal.plV (Cal.leap y) n l))then 0 else 4)else 3)else 2
def aM(y n:Int)(l:Bool)(d:Int):Int:=if aK y n l d=0 then bA y (Cal.plV (Cal.leap y) n l) d else 0
theorem uj(y:Int)(h:Cal.dA y=true):1<=y/\y<=9999:=by simpa [Cal.dA]using h
theorem Jm(y:Int)(h:Cal.dA y=false):y<1∨9999<y:=by simp [Cal.dA]at h;omega
theorem bq{y n d:Int}{l:Bool}(h:aK y n l d=0):Valid y (Cal.plV (Cal.leap y) n l) d/\Cal.dH (Cal.leap y) n l=true:=by
 unfold aK at h
 split at h
 ·rename_i h1
  split at h
  ·rename_i h2
   split at h
   ·rename_i h3
    have:=uj y h1
    have hp:=iF _ _ _ h2
    simp only [Bool.and_eq_true,decide_eq_true_eq]at h3
    exact⟨⟨this.1,this.2,hp.1,hp.2.1,h3.1,h3.2⟩,h2⟩
   ·omega
  ·omega
 ·omega
theorem Bp{y m d:Int}(h:Valid y m d):aK y (Cal.ofN (Cal.leap y) m) (Cal.ofL (Cal.leap y) m) d=0/\aM y (Cal.ofN (Cal.leap y) m) (Cal.ofL (Cal.leap y) m) d=bA y m d:=by
 obtain⟨h1,h2,m1,m2,d1,d2⟩:=h
 obtain⟨_,e2,e3⟩:=IL _ m m1 m2
 have:aK y (Cal.ofN (Cal.leap y) m) (Cal.ofL (Cal.leap y) m) d=0:=by
  unfold aK;rw [Cal.dN y h1 h2,e2,e3];simp [d1,d2]
 exact⟨this,by unfold aM;rw [this,e3,if_pos rfl]⟩
end D10
end Go.Proofs.YtljbnicolhhicaaGreatDoor
