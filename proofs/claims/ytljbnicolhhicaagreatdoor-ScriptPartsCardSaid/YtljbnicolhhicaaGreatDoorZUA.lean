import Derived.Test.YtljbnicolhhicaaGreatDoorZAD
set_option linter.defProp false
set_option maxHeartbeats 8000000
set_option maxRecDepth 100000
set_option linter.unusedSimpArgs false
set_option linter.unusedVariables false
namespace Go.Proofs.YtljbnicolhhicaaGreatDoor
section
open Go.RowKit
namespace U17
open A16
def ix(y n:Int)(l:Bool)(a:Int):Int:=S15.dR (y+a) (n1 y n l a 0) (l1 y n l a 0) 0
def len(i:Int):Int:=D10.dLen (S15.mY i) (S15.mM i)
def cut(d i:Int):Int:=if d<=len i then d else len i
def F(d i:Int):Int:=D10.bA (S15.mY i) (S15.mM i) (cut d i)
theorem jC{y n d:Int}{l:Bool}(h:D10.aK y n l d=0):Cal.right n l=true/\1<=y/\y<=9999/\1<=d/\d<=30:=by
 obtain⟨⟨y1,y2,m1,m2,d1,d2⟩,hp⟩:=D10.bq h
 have hr:Cal.right n l=true:=by unfold Cal.dH at hp;simp only [Bool.and_eq_true]at hp;exact hp.1
 have:=D10.j5 y _ y1 y2 m1 m2
 exact⟨hr,y1,y2,d1,vO⟩
theorem abO(lp:Bool):Cal.dH lp 6 false=true:=by cases lp <;> decide
theorem Vk{y n d a:Int}{l:Bool}(h:D10.aK y n l d=0)(h1:1<=y+a)(h2:y+a<=9999):S15.bT (y+a) n l 0=0/\Cal.dH (Cal.leap (y+a)) (n1 y n l a 0) (l1 y n l a 0)=true:=by
 obtain⟨hr,_⟩:=jC h
 have e:S15.bT (y+a) n l 0=0:=by
  unfold S15.bT
  rw [show S15.mode 0=true from rfl,Cal.dN _ h1 h2,hr]
  simp
 refine⟨e, ?_⟩
 unfold n1 l1 S15.lD S15.lu
 rw [if_pos e,if_pos e]
 by_cases hp:Cal.dH (Cal.leap (y+a)) n l=true
 ·rw [if_pos hp,if_pos hp];exact hp
 ·rw [if_neg hp,if_neg hp];exact abO _
theorem XJ{y n d a:Int}{l:Bool}(h:D10.aK y n l d=0)(h1:1<=y+a)(h2:y+a<=9999):Cal.before (y+a)<=ix y n l a/\ix y n l a<Cal.before (y+a+1):=by
 obtain⟨_,hp⟩:=Vk h h1 h2
 obtain⟨p1,p2,_⟩:=D10.iF _ _ _ hp
 have:=S15.yt (y+a)
 unfold ix S15.dR
 omega
theorem QH{y n d a:Int}{l:Bool}(h:D10.aK y n l d=0)(h1:1<=y+a)(h2:y+a<=9999):0<=ix y n l a/\ix y n l a<123671:=by
 obtain⟨c1,c2⟩:=XJ h h1 h2
 have b1:=S15.iL 1 (y+a) h1
 have b2:=S15.iL (y+a+1) 10000 vO
 rw [S15.CR]at b1
 rw [S15.nE]at b2
 omega
theorem aaQ{y n d a b:Int}{l:Bool}(h:D10.aK y n l d=0)(h1:1<=y+a)(hab:a<b)(h2:y+b<=9999):ix y n l a<ix y n l b:=by
 obtain⟨_,c2⟩:=XJ h h1 vO
 obtain⟨c3,_⟩:=XJ (a:=b) h vO h2
 have:=S15.iL (y+a+1) (y+b) vO
 omega
theorem GQ(y n:Int)(l:Bool)(a b:Int):S15.dR (y+a) (n1 y n l a 0) (l1 y n l a 0) b=ix y n l a+b:=by unfold ix S15.dR;omega
theorem Ti{d i:Int}(hd:1<=d)(h0:0<=i)(h1:i<123671):D10.Valid (S15.mY i) (S15.mM i) (cut d i):=by
 obtain⟨y1,y2⟩:=S15.Vl i h0 h1
 obtain⟨m1,m2⟩:=S15.UK i
 have:=D10.j5 _ _ y1 y2 m1 m2
 refine⟨y1,y2,m1,m2, ?_⟩
 unfold cut len
 split <;> omega
theorem F_bd{d i:Int}(hd:1<=d)(h0:0<=i)(h1:i<123671): -1373427<=F d i/\F d i<=2278650:=D10.Im (Ti hd h0 h1)
theorem F_lt{d i j:Int}(hd:1<=d)(h0:0<=i)(hij:i<j)(h1:j<123671):F d i<F d j:=by
 refine D10.SY (Ti hd h0 vO) (Ti hd vO h1) ?_
 rcases A16.mY_lt hij with c|⟨c1,c2⟩
 ·exact .inl c
 ·exact .inr ⟨c1,.inl c2⟩
theorem to_F{y n d a b:Int}{l:Bool}(h:D10.aK y n l d=0)(hr:right a b 0 0=true):
  (¬ (1<=y+a/\y+a<=9999/\0<=ix y n l a+b/\ix y n l a+b<123671)->toE y n l d a b 0 0 0=2)/\
  ((1<=y+a/\y+a<=9999/\0<=ix y n l a+b/\ix y n l a+b<123671)->toE y n l d a b 0 0 0=0/\day y n l d a b 0 0 0=F d (ix y n l a+b)):=by
 obtain⟨hR,y1,y2',d1,d2'⟩:=jC h
 obtain⟨⟨a1,a2⟩,⟨b1,b2⟩,_⟩:=CG hr
 have x0:(right a b 0 0&&S15.mode 0)=true:=by rw [hr];rfl
 by_cases hy:1<=y+a/\y+a<=9999
 ·obtain⟨hi,hp⟩:=Vk h hy.1 hy.2
  have hl:=S15.O0 hy.1 hy.2 hp
  by_cases hx:0<=ix y n l a+b/\ix y n l a+b<123671
  ·refine⟨fun hn=>absurd ⟨hy.1,hy.2,hx.1,hx.2⟩ hn,fun _=> ?_⟩
   have he2:e2 y n l a b 0=0:=S15.aaT hl b1 b2 (by rw [GQ];exact hx.1) (by rw [GQ];exact hx.2)
   obtain⟨ht,_,_,_⟩:=S15.Mh (show S15.monE (y+a) (n1 y n l a 0) (l1 y n l a 0) b=0 from he2)
   obtain⟨py,pm⟩:=Zr (show S15.monE (y+a) (n1 y n l a 0) (l1 y n l a 0) b=0 from he2)
   rw [GQ]at py pm
   have hlv:D10.aY (y2 y n l a b 0) (n2 y n l a b 0) (l2 y n l a b 0)=len (ix y n l a+b):=by
    obtain⟨_,_,_,e,_⟩:=D10.LV ht
    refine e.trans ?_
    rw [pm,py];rfl
   have he3:e3 y n l d a b 0=0:=by
    unfold e3 S15.og
    rw [show S15.mode 0=true from rfl,if_pos rfl,if_pos (show D10.bO (y2 y n l a b 0) (n2 y n l a b 0) (l2 y n l a b 0)=0 from ht),if_neg vO]
    split
    ·rfl
    ·simp
   have hd2:d2 y n l d a b 0=cut d (ix y n l a+b):=by
    have e:d2 y n l d a b 0=if d<=D10.aY (y2 y n l a b 0) (n2 y n l a b 0) (l2 y n l a b 0)then d else D10.aY (y2 y n l a b 0) (n2 y n l a b 0) (l2 y n l a b 0):=by
     unfold d2 S15.J2
     exact if_pos he3
    rw [e,hlv];rfl
   have hE:=Rk (m:=0) he3
   have hday:day y n l d a b 0 0 0=F d (ix y n l a+b):=by
    unfold day D10.aM
    rw [if_pos (show D10.aK (y2 y n l a b 0) (n2 y n l a b 0) (l2 y n l a b 0) (d2 y n l d a b 0)=0 from hE),hd2,show y2 y n l a b 0=S15.mY (ix y n l a+b)from py]
    rw [show Cal.plV (Cal.leap (S15.mY (ix y n l a+b))) (n2 y n l a b 0) (l2 y n l a b 0)=S15.mM (ix y n l a+b)from py▸pm]
    unfold F;omega
   refine⟨?_,hday⟩
   have:=F_bd d1 hx.1 hx.2
   unfold toE
   rw [if_pos x0,if_pos h,if_pos hi,if_pos he2,if_pos he3,if_neg (by rw [hday];unfold out;omega)]
  ·refine⟨fun _=> ?_,fun hh=>absurd ⟨hh.2.2.1,hh.2.2.2⟩ hx⟩
   have he2:e2 y n l a b 0=2:=by
    unfold e2 S15.monE
    rw [if_pos hl,if_neg vO,if_pos (by rw [GQ];omega)]
   unfold toE
   rw [if_pos x0,if_pos h,if_pos hi,if_neg (by rw [he2];omega),he2]
 ·refine⟨fun _=> ?_,fun hh=>absurd ⟨hh.1,hh.2.1⟩ hy⟩
  have hyf:Cal.dA (y+a)=false:=by
   cases c:Cal.dA (y+a)
   ·rfl
   ·exact absurd (D10.uj _ c) hy
  have hi:S15.bT (y+a) n l 0=2:=by
   unfold S15.bT
   rw [show S15.mode 0=true from rfl,hyf]
   simp
  unfold toE
  rw [if_pos x0,if_pos h,if_neg (by rw [hi];omega),hi]
theorem Ny{a b:Int}(ha: -4000000<=a/\a<=4000000)(hb: -4000000<=b/\b<=4000000):right a b 0 0=true:=by simp [right,may,ha,hb]
theorem Xt{y n d a b:Int}{l:Bool}(hr:¬ right a b 0 0=true):toE y n l d a b 0 0 0=1:=by
 unfold toE;rw [if_neg (by simp [hr])]
def nb(sg x B:Int):Bool:=if sg<0 then decide (B<=x)else decide (x<=B)
def fit(y n:Int)(l:Bool)(d a b sg B:Int):Bool:=decide (toE y n l d a b 0 0 0=0)&&nb sg (day y n l d a b 0 0 0) B
theorem GJ{y n d a b sg B:Int}{l:Bool}(h:D10.aK y n l d=0):fit y n l d a b sg B=true↔(right a b 0 0=true/\(1<=y+a/\y+a<=9999/\0<=ix y n l a+b/\ix y n l a+b<123671)/\nb sg (F d (ix y n l a+b)) B=true):=by
 unfold fit
 by_cases hr:right a b 0 0=true
 ·obtain⟨t1,t2⟩:=to_F h hr
  by_cases c:1<=y+a/\y+a<=9999/\0<=ix y n l a+b/\ix y n l a+b<123671
  ·obtain⟨e1,e2⟩:=t2 c
   rw [e1,e2]
   simp [hr,c]
  ·rw [t1 c]
   simp [c]
 ·rw [Xt hr]
  simp [hr]
def P(y n:Int)(l:Bool)(d sg B:Int)(k:Nat):Bool:=fit y n l d (sg*k) 0 sg B
def Q(y n:Int)(l:Bool)(d a sg B:Int)(k:Nat):Bool:=fit y n l d a (sg*k) sg B
theorem XO{y n d sg B:Int}{l:Bool}(h:D10.aK y n l d=0)(hs:sg=1∨sg= -1){j k:Nat}(hjk:j<=k)(hk:P y n l d sg B k=true):P y n l d sg B j=true:=by
 by_cases c:j=k
 ·rw [c];exact hk
 obtain⟨_,y1,y2,d1,_⟩:=jC h
 unfold P at*
 rw [GJ h]at*
 obtain⟨hr,⟨a1,a2,_,_⟩,hb⟩:=hk
 have hrj:=(CG hr).1
 rcases hs with rfl|rfl
 ·have e1:(1:Int)*(k:Int)=k:=vO
  have e2:(1:Int)*(j:Int)=j:=vO
  rw [e1]at*
  rw [e2]
  have i1:=QH (a:=(j:Int)) h vO vO
  have i2:=QH (a:=(k:Int)) h vO vO
  have i3:=aaQ (a:=(j:Int)) (b:=(k:Int)) h vO vO vO
  have f:=F_lt d1 (show 0<=ix y n l j+0 by omega) (show ix y n l j+0<ix y n l k+0 by omega) vO
  refine⟨Ny vO vO,⟨vO,vO,vO,vO⟩, ?_⟩
  simp [nb]at hb⊢
  simp at f
  omega
 ·have e1:(-1:Int)*(k:Int)= -k:=vO
  have e2:(-1:Int)*(j:Int)= -j:=vO
  rw [e1]at*
  rw [e2]
  have i1:=QH (a:= -(j:Int)) h vO vO
  have i2:=QH (a:= -(k:Int)) h vO vO
  have i3:=aaQ (a:= -(k:Int)) (b:= -(j:Int)) h vO vO vO
  have f:=F_lt d1 (show 0<=ix y n l (-k)+0 by omega) (show ix y n l (-k)+0<ix y n l (-j)+0 by omega) vO
  refine⟨Ny vO vO,⟨vO,vO,vO,vO⟩, ?_⟩
  simp [nb]at hb⊢
  simp at f
  omega
theorem P_no{y n d sg B:Int}{l:Bool}(h:D10.aK y n l d=0)(hs:sg=1∨sg= -1){k:Nat}(hk:9999<=k):P y n l d sg B k=false:=by
 cases c:P y n l d sg B k
 ·rfl
 ·unfold P at c
  rw [GJ h]at c
  obtain⟨_,y1,y2,_⟩:=jC h
  rcases hs with rfl|rfl <;> omega
theorem MP{y n d a sg B:Int}{l:Bool}(h:D10.aK y n l d=0)(hs:sg=1∨sg= -1)(h0:Q y n l d a sg B 0=true){j k:Nat}(hjk:j<=k)(hk:Q y n l d a sg B k=true):Q y n l d a sg B j=true:=by
 by_cases c:j=k
 ·rw [c];exact hk
 obtain⟨_,y1,y2,d1,_⟩:=jC h
 unfold Q at*
 rw [GJ h]at*
 obtain⟨hr,⟨a1,a2,a3,a4⟩,hb⟩:=hk
 obtain⟨_,⟨_,_,b3,b4⟩,_⟩:=h0
 have hrj:=CG hr
 rcases hs with rfl|rfl
 ·have e1:(1:Int)*(k:Int)=k:=vO
  have e2:(1:Int)*(j:Int)=j:=vO
  rw [e1]at*
  rw [e2]
  have f:=F_lt d1 (show 0<=ix y n l a+j by omega) (show ix y n l a+j<ix y n l a+k by omega) vO
  refine⟨Ny vO vO,⟨vO,vO,vO,vO⟩, ?_⟩
  simp [nb]at hb⊢
  omega
 ·have e1:(-1:Int)*(k:Int)= -k:=vO
  have e2:(-1:Int)*(j:Int)= -j:=vO
  rw [e1]at*
  rw [e2]
  have f:=F_lt d1 (show 0<=ix y n l a+ -(k:Int) by omega) (show ix y n l a+ -(k:Int)<ix y n l a+ -(j:Int) by omega) vO
  refine⟨Ny vO vO,⟨vO,vO,vO,vO⟩, ?_⟩
  simp [nb]at hb⊢
  omega
theorem Q_no{y n d a sg B:Int}{l:Bool}(h:D10.aK y n l d=0)(hs:sg=1∨sg= -1){k:Nat}(hk:123671<=k):Q y n l d a sg B k=false:=by
 cases c:Q y n l d a sg B k
 ·rfl
 ·unfold Q at c
  rw [GJ h]at c
  obtain⟨_,⟨a1,a2,_,_⟩,_⟩:=c
  have:=QH h a1 a2
  rcases hs with rfl|rfl <;> omega
theorem Gx(p:Nat->Bool)(h0:p 0=true):∀N:Nat,p N=false->∃k,k<N/\p k=true/\p (k+1)=false
 |0,h=>by rw [h0]at h;cases h
 | N+1,h=>by
  cases c:p N
  ·obtain⟨k,h1,h2⟩:=Gx p h0 N c
   exact⟨k,vO,h2⟩
  ·exact⟨N,vO,c,h⟩
def sg(A B:Int):Int:=if B<A then -1 else 1
theorem aaL(A B:Int):sg A B=1∨sg A B= -1:=by unfold sg;split <;> omega
theorem P_0{y n d B:Int}{l:Bool}(h:D10.aK y n l d=0):P y n l d (sg (D10.aM y n l d) B) B 0=true:=by
 obtain⟨e1,e2⟩:=MV (c:=0) (f:=0) (m:=0) h rfl rfl
 obtain⟨_,b1,b2⟩:=D10.qg y n l d h
 rw [if_neg (by unfold out;omega)]at e2
 unfold P fit
 rw [show sg (D10.aM y n l d) B*((0:Nat):Int)=0 by simp,e1,e2]
 unfold sg nb
 split <;> simp <;> omega
theorem P_Q(y n:Int)(l:Bool)(d a s B:Int)(k:Nat)(hk:a=s*k):P y n l d s B k=Q y n l d a s B 0:=by
 subst hk
 unfold P Q
 rw [show s*((0:Nat):Int)=0 by simp]
def Is(y n:Int)(l:Bool)(d A B unit a b c f:Int):Prop:=
 (unit=0/\a=0/\b=0/\c=0/\f=B-A)∨
 (unit=1/\a=0/\b=0/\c=(B-A).tdiv 7/\f=(B-A).tmod 7)∨
 (unit=2/\a=0/\c=0/\f=B-day y n l d a b 0 0 0/\∃k:Nat,b=sg A B*k/\Q y n l d a (sg A B) B 0=true/\Q y n l d a (sg A B) B k=true/\Q y n l d a (sg A B) B (k+1)=false)∨
 (unit=3/\c=0/\f=B-day y n l d a b 0 0 0/\∃j k:Nat,a=sg A B*j/\P y n l d (sg A B) B j=true/\P y n l d (sg A B) B (j+1)=false/\b=sg A B*k/\Q y n l d a (sg A B) B 0=true/\Q y n l d a (sg A B) B k=true/\Q y n l d a (sg A B) B (k+1)=false)
theorem Ac{y n d B unit:Int}{l:Bool}(h:D10.aK y n l d=0)(h0:0<=unit)(h3:unit<=3):∃a b c f,Is y n l d (D10.aM y n l d) B unit a b c f:=by
 have hs:=aaL (D10.aM y n l d) B
 have q0:Q y n l d 0 (sg (D10.aM y n l d) B) B 0=true:=by rw [←P_Q y n l d 0 _ B 0 vS];exact P_0 h
 rcases(show unit=0∨unit=1∨unit=2∨unit=3 by omega)with rfl|rfl|rfl|rfl
 ·exact⟨_,_,_,_,.inl ⟨rfl,rfl,rfl,rfl,rfl⟩⟩
 ·exact⟨_,_,_,_,.inr (.inl ⟨rfl,rfl,rfl,rfl,rfl⟩)⟩
 ·obtain⟨k,_,k1,k2⟩:=Gx _ q0 _ (Q_no h hs (Nat.le_refl _))
  exact⟨0,_,0,_,.inr (.inr (.inl ⟨rfl,rfl,rfl,rfl,k,rfl,q0,k1,k2⟩))⟩
 ·obtain⟨j,_,j1,j2⟩:=Gx _ (P_0 (B:=B) h) _ (P_no h hs (Nat.le_refl _))
  have q1:Q y n l d (sg (D10.aM y n l d) B*j) (sg (D10.aM y n l d) B) B 0=true:=by rw [←P_Q y n l d _ _ B j rfl];exact j1
  obtain⟨k,_,k1,k2⟩:=Gx _ q1 _ (Q_no h hs (Nat.le_refl _))
  exact⟨_,_,0,_,.inr (.inr (.inr ⟨rfl,rfl,rfl,j,k,rfl,j1,j2,rfl,q1,k1,k2⟩))⟩
end U17
end
section
open Go.ChangeShapes Go.WideShapes Go.ChangeAt Go.RowKit
theorem Wx(g:Nat)(cb:Array Value)(n k:Nat)(p:Nat->Bool)(w:World)(eg:(∀args w,(callFunc g args).run Tryo.prog w= .ok (.enter g args) w))(hn:n<=1000000)(hk:k<=n)
  (hf:∀W,Below w.1.size w W->∀i:Nat,i<n->vB g (#[.int .i64 i]++cb) W (.bool (p i)))
  (hlo:∀i,i<k->p i=false) (hhi:∀i,k<=i->i<n->p i=true):
  vB 107 #[.int .i64 n,.func (.func g) #[] cb] w (.int .i64 k):=by
 have HF:=Lib.hid hf
 have HL:=Lib.hid hlo
 have HH:=Lib.hid hhi
 clear hf hlo hhi
 go_enter (vF Tryz.func107),Tryz.ntmps107
 go_wp2_with fail
 go_loopw [5,6] (fun s5 s6 wr=>∃lo hi:Nat,s5= .int .i64 lo/\s6= .int .i64 hi/\lo<=k/\k<=hi/\hi<=n/\Below w.1.size w wr) (fun s5 s6 _=>(intOf s6-intOf s5).toNat)
 case atStart=>exact⟨0,n,rfl,rfl,Nat.zero_le _,hk,Nat.le_refl _,Below.refl _ _⟩
 case round=>
  obtain⟨lo,hi,rfl,rfl,h1,h2,h3,hB⟩:=hrel
  by_cases hlt:lo<hi
  ·have hc:=HF.out wr hB ((lo+hi) / 2) vO
   rw [show(((lo+hi) / 2:Nat):Int)=((lo:Int)+(hi:Int)) / 2 by omega]at hc
   cases hp:p ((lo+hi) / 2) <;> rw [hp]at hc
   ·have hk2:(lo+hi) / 2<k:=by
     rcases Nat.lt_or_ge ((lo+hi) / 2) k with h|h
     ·exact h
     ·have:=HH.out _ h vO
      rw [hp]at this
      cases this
    clear hp
    go_wp2_with (go_at_fn g;refine hc.mono ?_;rintro e w9 ⟨rfl,hb9⟩)
    go_roundw
    case rel=>exact⟨(lo+hi) / 2+1,hi,by rw [show((lo:Int)+(hi:Int)) / 2+1=(((lo+hi) / 2+1:Nat):Int) by omega],rfl,vO,h2,h3,bt hB hb9⟩
    case measure=>simp [intOf];omega
   ·have hk2:k<=(lo+hi) / 2:=by
     rcases Nat.lt_or_ge ((lo+hi) / 2) k with h|h
     ·have:=HL.out _ h
      rw [hp]at this
      cases this
     ·exact h
    clear hp
    go_wp2_with (go_at_fn g;refine hc.mono ?_;rintro e w9 ⟨rfl,hb9⟩)
    go_roundw
    case rel=>exact⟨lo,(lo+hi) / 2,rfl,by rw [show((lo:Int)+(hi:Int)) / 2=(((lo+hi) / 2:Nat):Int) by omega],h1,hk2,vO,bt hB hb9⟩
    case measure=>simp [intOf];omega
  ·obtain rfl:lo=k:=vO
   obtain rfl:hi=lo:=vO
   go_wp2_with fail
   go_ret
   exact⟨rfl,hB⟩
theorem F3(gf:Nat)(cf:Array Value)(B:Nat)(w:World)(b:Bool)(i:Nat)(hi:i<=1000000)(hB:w.cell? ⟨B,0,none⟩=some (.func (.func gf) #[] cf))(eg:(∀args w,(callFunc gf args).run Tryo.prog w= .ok (.enter gf args) w))
  (hc:vB gf (#[.int .i64 ((i:Int)+1)]++cf) w (.bool b)):
  vB 156 #[.int .i64 i,.pointer (some ⟨B,0,none⟩)] w (.bool (!b)):=by
 have h0:(0:Int)<=(i:Int):=vO
 have h1:(i:Int)<=1000000:=vO
 go_enter (vF Tryz.func156),Tryz.ntmps156
 go_wp2_with (go_at_fn gf;refine hc.mono ?_;rintro e w1 ⟨rfl,hb1⟩)
 go_ret
 exact⟨rfl,hb1⟩
theorem yM(gf:Nat)(cf:Array Value)(p:Nat->Bool)(k:Nat)(w:World)(eg:(∀args w,(callFunc gf args).run Tryo.prog w= .ok (.enter gf args) w))(hk:k<=200000)
  (hf:∀W,Below w.1.size w W->∀i:Nat,i<=2*k+1->vB gf (#[.int .i64 i]++cf) W (.bool (p i)))
  (hd:∀i,i<=k->p i=true) (hu:∀i,k<i->p i=false):
  vB 122 #[.func (.func gf) #[] cf] w (.int .i64 k):=by
 have HS:∀ (m:Nat) (W:World),k<m->m<=2*k+1->W.cell? ⟨w.1.size,0,none⟩=some (.func (.func gf) #[] cf)->w.1.size<W.1.size->Below w.1.size w W->vB 107 #[.int .i64 m,.func (.func 156) #[] #[.pointer (some ⟨w.1.size,0,none⟩)]] W (.int .i64 k):=by
  intro m W h1 h2 hW hs hBW
  refine Wx 156 #[.pointer (some ⟨w.1.size,0,none⟩)] m k (fun i=> !p (i+1)) W (enters_of (vF Tryz.func156) vK rfl) vO vO (fun W' hb i hi=> ?_) (fun i hi=>by simp [hd (i+1) vO]) (fun i h3 h4=>by simp [hu (i+1) vO])
  have h:=hf W' (bt hBW hb) (i+1) vO
  rw [show((i+1:Nat):Int)=(i:Int)+1 by omega]at h
  exact F3 gf cf w.1.size W' (p (i+1)) i vO ((hb.cell (p:=⟨w.1.size,0,none⟩) hs).trans hW) eg h
 have HR:=Lib.hid HS
 have HF:=Lib.hid hf
 have HD:=Lib.hid hd
 have HU:=Lib.hid hu
 clear hf hd hu HS
 go_enter (vF Tryz.func122),Tryz.ntmps122
 go_wp2_with fail
 go_loopw [3] (fun s3 wr=>∃m:Nat,s3= .int .i64 m/\1<=m/\m<=2*k+1/\wr.cell? ⟨w.1.size,0,none⟩=some (.func (.func gf) #[] cf)/\w.1.size<wr.1.size/\Below w.1.size w wr) (fun s3 _=>(2*(k:Int)+2-intOf s3).toNat)
 case atStart=>exact⟨1,rfl,vO,vO,vG,vS,ba _ _⟩
 case round=>
  obtain⟨m,rfl,h1,h2,hc0,hs0,hB⟩:=hrel
  have i0:(0:Int)<=(m:Int):=vO
  have i1:(m:Int)<=1000000:=vO
  by_cases hm:m<=k
  ·have hc:=HF.out wr hB m vO
   rw [HD.out m hm]at hc
   go_wp2_with (go_at_fn gf;refine hc.mono ?_;rintro e w9 ⟨rfl,hb9⟩)
   go_roundw
   case rel=>exact⟨m*2,by rw [show((m*2:Nat):Int)=(m:Int)*2 by omega],vO,vO,(hb9.cell (p:=⟨w.1.size,0,none⟩) hs0).trans hc0,Nat.lt_of_lt_of_le hs0 hb9.size,bt hB hb9⟩
   case measure=>simp [intOf];omega
  ·have hc:=HF.out wr hB m vO
   rw [HU.out m vO]at hc
   go_wp2_with (go_at_fn gf;refine hc.mono ?_;rintro e w9 ⟨rfl,hb9⟩)
   refine(HR.out m _ vO vO ((hb9.cell (p:=⟨w.1.size,0,none⟩) hs0).trans hc0) (Nat.lt_of_lt_of_le hs0 hb9.size) (bt hB hb9)).mono ?_
   rintro e w8 ⟨rfl,hb8⟩
   go_wp2_with fail
   go_ret
   exact⟨rfl,bt (bt hB hb9) hb8⟩
end
section
open Go.ChangeShapes Go.WideShapes Go.ChangeAt Go.RowKit
def aS(w:World)(g:Nat)(y n:Int)(l:Bool)(d z k:Int)(h:Bool)(f s a b c q e:Int):Prop:=
 w.cell? ⟨g,0,none⟩=some (y:vV)/\w.cell? ⟨g,1,none⟩=some (n:vV)/\w.cell? ⟨g,2,none⟩=some (.bool l)/\w.cell? ⟨g,3,none⟩=some (d:vV)/\w.cell? ⟨g,4,none⟩=some (z:vV)/\w.cell? ⟨g,5,none⟩=some (k:vV)/\w.cell? ⟨g,6,none⟩=some (.bool h)/\w.cell? ⟨g,7,none⟩=some (f:vV)/\w.cell? ⟨g,8,none⟩=some (s:vV)/\w.cell? ⟨g,9,none⟩=some (a:vV)/\w.cell? ⟨g,10,none⟩=some (b:vV)/\w.cell? ⟨g,11,none⟩=some (c:vV)/\w.cell? ⟨g,12,none⟩=some (q:vV)/\w.cell? ⟨g,13,none⟩=some (e:vV)/\(∀i,w.frozen? ⟨g,i,none⟩=false)/\g<w.1.size
theorem ow{w:World}{g:Nat}{y n:Int}{l:Bool}{d z k:Int}{h:Bool}{f s a b c q e:Int}(hh:aS w g y n l d z k h f s a b c q e)(v:Int):aS (w.setCell ⟨g,0,none⟩ (.int .i64 v)) g v n l d z k h f s a b c q e:=by
 obtain⟨x0,x1,x2,x3,x4,x5,x6,x7,x8,x9,x10,x11,x12,x13,hfz,hsz⟩:=hh
 exact⟨World.cell?_setCell_same _ _ _ x0,(cso).trans x1,(cso).trans x2,(cso).trans x3,(cso).trans x4,(cso).trans x5,(cso).trans x6,(cso).trans x7,(cso).trans x8,(cso).trans x9,(cso).trans x10,(cso).trans x11,(cso).trans x12,(cso).trans x13,fun i=>by simp [go_sem,hfz],by simpa [World.setCell]using hsz⟩
theorem nN{w:World}{g:Nat}{y n:Int}{l:Bool}{d z k:Int}{h:Bool}{f s a b c q e:Int}(hh:aS w g y n l d z k h f s a b c q e)(v:Int):aS (w.setCell ⟨g,1,none⟩ (.int .i64 v)) g y v l d z k h f s a b c q e:=by
 obtain⟨x0,x1,x2,x3,x4,x5,x6,x7,x8,x9,x10,x11,x12,x13,hfz,hsz⟩:=hh
 exact⟨(cso).trans x0,World.cell?_setCell_same _ _ _ x1,(cso).trans x2,(cso).trans x3,(cso).trans x4,(cso).trans x5,(cso).trans x6,(cso).trans x7,(cso).trans x8,(cso).trans x9,(cso).trans x10,(cso).trans x11,(cso).trans x12,(cso).trans x13,fun i=>by simp [go_sem,hfz],by simpa [World.setCell]using hsz⟩
theorem oM{w:World}{g:Nat}{y n:Int}{l:Bool}{d z k:Int}{h:Bool}{f s a b c q e:Int}(hh:aS w g y n l d z k h f s a b c q e)(v:Bool):aS (w.setCell ⟨g,2,none⟩ (.bool v)) g y n v d z k h f s a b c q e:=by
 obtain⟨x0,x1,x2,x3,x4,x5,x6,x7,x8,x9,x10,x11,x12,x13,hfz,hsz⟩:=hh
 exact⟨(cso).trans x0,(cso).trans x1,World.cell?_setCell_same _ _ _ x2,(cso).trans x3,(cso).trans x4,(cso).trans x5,(cso).trans x6,(cso).trans x7,(cso).trans x8,(cso).trans x9,(cso).trans x10,(cso).trans x11,(cso).trans x12,(cso).trans x13,fun i=>by simp [go_sem,hfz],by simpa [World.setCell]using hsz⟩
theorem nX{w:World}{g:Nat}{y n:Int}{l:Bool}{d z k:Int}{h:Bool}{f s a b c q e:Int}(hh:aS w g y n l d z k h f s a b c q e)(v:Int):aS (w.setCell ⟨g,3,none⟩ (.int .i64 v)) g y n l v z k h f s a b c q e:=by
 obtain⟨x0,x1,x2,x3,x4,x5,x6,x7,x8,x9,x10,x11,x12,x13,hfz,hsz⟩:=hh
 exact⟨(cso).trans x0,(cso).trans x1,(cso).trans x2,World.cell?_setCell_same _ _ _ x3,(cso).trans x4,(cso).trans x5,(cso).trans x6,(cso).trans x7,(cso).trans x8,(cso).trans x9,(cso).trans x10,(cso).trans x11,(cso).trans x12,(cso).trans x13,fun i=>by simp [go_sem,hfz],by simpa [World.setCell]using hsz⟩
theorem nM{w:World}{g:Nat}{y n:Int}{l:Bool}{d z k:Int}{h:Bool}{f s a b c q e:Int}(hh:aS w g y n l d z k h f s a b c q e)(v:Int):aS (w.setCell ⟨g,4,none⟩ (.int .i64 v)) g y n l d v k h f s a b c q e:=by
 obtain⟨x0,x1,x2,x3,x4,x5,x6,x7,x8,x9,x10,x11,x12,x13,hfz,hsz⟩:=hh
 exact⟨(cso).trans x0,(cso).trans x1,(cso).trans x2,(cso).trans x3,World.cell?_setCell_same _ _ _ x4,(cso).trans x5,(cso).trans x6,(cso).trans x7,(cso).trans x8,(cso).trans x9,(cso).trans x10,(cso).trans x11,(cso).trans x12,(cso).trans x13,fun i=>by simp [go_sem,hfz],by simpa [World.setCell]using hsz⟩
theorem nQ{w:World}{g:Nat}{y n:Int}{l:Bool}{d z k:Int}{h:Bool}{f s a b c q e:Int}(hh:aS w g y n l d z k h f s a b c q e)(v:Int):aS (w.setCell ⟨g,5,none⟩ (.int .i64 v)) g y n l d z v h f s a b c q e:=by
 obtain⟨x0,x1,x2,x3,x4,x5,x6,x7,x8,x9,x10,x11,x12,x13,hfz,hsz⟩:=hh
 exact⟨(cso).trans x0,(cso).trans x1,(cso).trans x2,(cso).trans x3,(cso).trans x4,World.cell?_setCell_same _ _ _ x5,(cso).trans x6,(cso).trans x7,(cso).trans x8,(cso).trans x9,(cso).trans x10,(cso).trans x11,(cso).trans x12,(cso).trans x13,fun i=>by simp [go_sem,hfz],by simpa [World.setCell]using hsz⟩
theorem nW{w:World}{g:Nat}{y n:Int}{l:Bool}{d z k:Int}{h:Bool}{f s a b c q e:Int}(hh:aS w g y n l d z k h f s a b c q e)(v:Bool):aS (w.setCell ⟨g,6,none⟩ (.bool v)) g y n l d z k v f s a b c q e:=by
 obtain⟨x0,x1,x2,x3,x4,x5,x6,x7,x8,x9,x10,x11,x12,x13,hfz,hsz⟩:=hh
 exact⟨(cso).trans x0,(cso).trans x1,(cso).trans x2,(cso).trans x3,(cso).trans x4,(cso).trans x5,World.cell?_setCell_same _ _ _ x6,(cso).trans x7,(cso).trans x8,(cso).trans x9,(cso).trans x10,(cso).trans x11,(cso).trans x12,(cso).trans x13,fun i=>by simp [go_sem,hfz],by simpa [World.setCell]using hsz⟩
theorem oF{w:World}{g:Nat}{y n:Int}{l:Bool}{d z k:Int}{h:Bool}{f s a b c q e:Int}(hh:aS w g y n l d z k h f s a b c q e)(v:Int):aS (w.setCell ⟨g,7,none⟩ (.int .i64 v)) g y n l d z k h v s a b c q e:=by
 obtain⟨x0,x1,x2,x3,x4,x5,x6,x7,x8,x9,x10,x11,x12,x13,hfz,hsz⟩:=hh
 exact⟨(cso).trans x0,(cso).trans x1,(cso).trans x2,(cso).trans x3,(cso).trans x4,(cso).trans x5,(cso).trans x6,World.cell?_setCell_same _ _ _ x7,(cso).trans x8,(cso).trans x9,(cso).trans x10,(cso).trans x11,(cso).trans x12,(cso).trans x13,fun i=>by simp [go_sem,hfz],by simpa [World.setCell]using hsz⟩
theorem oN{w:World}{g:Nat}{y n:Int}{l:Bool}{d z k:Int}{h:Bool}{f s a b c q e:Int}(hh:aS w g y n l d z k h f s a b c q e)(v:Int):aS (w.setCell ⟨g,8,none⟩ (.int .i64 v)) g y n l d z k h f v a b c q e:=by
 obtain⟨x0,x1,x2,x3,x4,x5,x6,x7,x8,x9,x10,x11,x12,x13,hfz,hsz⟩:=hh
 exact⟨(cso).trans x0,(cso).trans x1,(cso).trans x2,(cso).trans x3,(cso).trans x4,(cso).trans x5,(cso).trans x6,(cso).trans x7,World.cell?_setCell_same _ _ _ x8,(cso).trans x9,(cso).trans x10,(cso).trans x11,(cso).trans x12,(cso).trans x13,fun i=>by simp [go_sem,hfz],by simpa [World.setCell]using hsz⟩
theorem mH{w:World}{g:Nat}{y n:Int}{l:Bool}{d z k:Int}{h:Bool}{f s a b c q e:Int}(hh:aS w g y n l d z k h f s a b c q e)(v:Int):aS (w.setCell ⟨g,9,none⟩ (.int .i64 v)) g y n l d z k h f s v b c q e:=by
 obtain⟨x0,x1,x2,x3,x4,x5,x6,x7,x8,x9,x10,x11,x12,x13,hfz,hsz⟩:=hh
 exact⟨(cso).trans x0,(cso).trans x1,(cso).trans x2,(cso).trans x3,(cso).trans x4,(cso).trans x5,(cso).trans x6,(cso).trans x7,(cso).trans x8,World.cell?_setCell_same _ _ _ x9,(cso).trans x10,(cso).trans x11,(cso).trans x12,(cso).trans x13,fun i=>by simp [go_sem,hfz],by simpa [World.setCell]using hsz⟩
theorem kC{w:World}{g:Nat}{y n:Int}{l:Bool}{d z k:Int}{h:Bool}{f s a b c q e:Int}(hh:aS w g y n l d z k h f s a b c q e)(v:Int):aS (w.setCell ⟨g,10,none⟩ (.int .i64 v)) g y n l d z k h f s a v c q e:=by
 obtain⟨x0,x1,x2,x3,x4,x5,x6,x7,x8,x9,x10,x11,x12,x13,hfz,hsz⟩:=hh
 exact⟨(cso).trans x0,(cso).trans x1,(cso).trans x2,(cso).trans x3,(cso).trans x4,(cso).trans x5,(cso).trans x6,(cso).trans x7,(cso).trans x8,(cso).trans x9,World.cell?_setCell_same _ _ _ x10,(cso).trans x11,(cso).trans x12,(cso).trans x13,fun i=>by simp [go_sem,hfz],by simpa [World.setCell]using hsz⟩
theorem ku{w:World}{g:Nat}{y n:Int}{l:Bool}{d z k:Int}{h:Bool}{f s a b c q e:Int}(hh:aS w g y n l d z k h f s a b c q e)(v:Int):aS (w.setCell ⟨g,11,none⟩ (.int .i64 v)) g y n l d z k h f s a b v q e:=by
 obtain⟨x0,x1,x2,x3,x4,x5,x6,x7,x8,x9,x10,x11,x12,x13,hfz,hsz⟩:=hh
 exact⟨(cso).trans x0,(cso).trans x1,(cso).trans x2,(cso).trans x3,(cso).trans x4,(cso).trans x5,(cso).trans x6,(cso).trans x7,(cso).trans x8,(cso).trans x9,(cso).trans x10,World.cell?_setCell_same _ _ _ x11,(cso).trans x12,(cso).trans x13,fun i=>by simp [go_sem,hfz],by simpa [World.setCell]using hsz⟩
theorem jJ{w:World}{g:Nat}{y n:Int}{l:Bool}{d z k:Int}{h:Bool}{f s a b c q e:Int}(hh:aS w g y n l d z k h f s a b c q e)(v:Int):aS (w.setCell ⟨g,12,none⟩ (.int .i64 v)) g y n l d z k h f s a b c v e:=by
 obtain⟨x0,x1,x2,x3,x4,x5,x6,x7,x8,x9,x10,x11,x12,x13,hfz,hsz⟩:=hh
 exact⟨(cso).trans x0,(cso).trans x1,(cso).trans x2,(cso).trans x3,(cso).trans x4,(cso).trans x5,(cso).trans x6,(cso).trans x7,(cso).trans x8,(cso).trans x9,(cso).trans x10,(cso).trans x11,World.cell?_setCell_same _ _ _ x12,(cso).trans x13,fun i=>by simp [go_sem,hfz],by simpa [World.setCell]using hsz⟩
theorem jg{w:World}{g:Nat}{y n:Int}{l:Bool}{d z k:Int}{h:Bool}{f s a b c q e:Int}(hh:aS w g y n l d z k h f s a b c q e)(v:Int):aS (w.setCell ⟨g,13,none⟩ (.int .i64 v)) g y n l d z k h f s a b c q v:=by
 obtain⟨x0,x1,x2,x3,x4,x5,x6,x7,x8,x9,x10,x11,x12,x13,hfz,hsz⟩:=hh
 exact⟨(cso).trans x0,(cso).trans x1,(cso).trans x2,(cso).trans x3,(cso).trans x4,(cso).trans x5,(cso).trans x6,(cso).trans x7,(cso).trans x8,(cso).trans x9,(cso).trans x10,(cso).trans x11,(cso).trans x12,World.cell?_setCell_same _ _ _ x13,fun i=>by simp [go_sem,hfz],by simpa [World.setCell]using hsz⟩
theorem aU{w w':World}{g:Nat}{y n:Int}{l:Bool}{d z k:Int}{h:Bool}{f s a b c q e:Int}(hh:aS w g y n l d z k h f s a b c q e)(hb:Below w.1.size w w'):aS w' g y n l d z k h f s a b c q e:=by
 obtain⟨x0,x1,x2,x3,x4,x5,x6,x7,x8,x9,x10,x11,x12,x13,hfz,hsz⟩:=hh
 have c:=fun i=>hb.cell (p:=⟨g,i,none⟩) hsz
 exact⟨(c 0).trans x0,(c 1).trans x1,(c 2).trans x2,(c 3).trans x3,(c 4).trans x4,(c 5).trans x5,(c 6).trans x6,(c 7).trans x7,(c 8).trans x8,(c 9).trans x9,(c 10).trans x10,(c 11).trans x11,(c 12).trans x12,(c 13).trans x13,fun i=>(hb.frozen (p:=⟨g,i,none⟩) hsz).trans (hfz i),Nat.lt_of_lt_of_le hsz hb.size⟩
theorem dQ(w:World)(y n:Int)(l:Bool)(d z k:Int)(h:Bool)(f s a b c q e:Int)(t:TypeId):aS (w.alloc (.cells #[y,n,l,d,z,k,h,f,s,a,b,c,q,e] t)) w.1.size y n l d z k h f s a b c q e:=
 ⟨vG,vG,vG,vG,vG,vG,vG,vG,vG,vG,vG,vG,vG,vG,fun i=>by simp [go_sem],vS⟩
def Az(w:World)(r:Nat)(y n:Int)(l:Bool)(d:Int):Prop:=w.cell? ⟨r,0,none⟩=some (y:vV)/\w.cell? ⟨r,1,none⟩=some (n:vV)/\w.cell? ⟨r,2,none⟩=some (.bool l)/\w.cell? ⟨r,3,none⟩=some (d:vV)/\(∀i,w.frozen? ⟨r,i,none⟩=false)/\r<w.1.size
theorem zT{w w':World}{g:Nat}{y n:Int}{l:Bool}{d:Int}(h:Az w g y n l d)(hb:Below w.1.size w w'):Az w' g y n l d:=by
 obtain⟨h0,h1,h2,h3,hf,hs⟩:=h
 have c:=fun i=>hb.cell (p:=⟨g,i,none⟩) hs
 exact⟨(c 0).trans h0,(c 1).trans h1,(c 2).trans h2,(c 3).trans h3,fun i=>(hb.frozen (p:=⟨g,i,none⟩) hs).trans (hf i),Nat.lt_of_lt_of_le hs hb.size⟩
theorem GX{w:World}{g:Nat}{y n:Int}{l:Bool}{d:Int}(h:Az w g y n l d):Az w.drew g y n l d:=zT h (Below.refl _ _).drew
theorem jH(w:World)(y n:Int)(l:Bool)(d:Int)(t:TypeId):Az (w.alloc (.cells #[y,n,l,d] t)) w.1.size y n l d:=⟨vG,vG,vG,vG,fun i=>by simp [go_sem],vS⟩
theorem lZ{w:World}{g:Nat}{y n:Int}{l:Bool}{d:Int}(h:Az w g y n l d)(y' n':Int)(l':Bool)(d':Int):Az ((((w.setCell ⟨g,0,none⟩ (.int .i64 y')).setCell ⟨g,1,none⟩ (.int .i64 n')).setCell ⟨g,2,none⟩ (.bool l')).setCell ⟨g,3,none⟩ (.int .i64 d')) g y' n' l' d':=by
 obtain⟨h0,h1,h2,h3,hf,hs⟩:=h
 exact⟨by simp [go_sem, *],by simp [go_sem, *],by simp [go_sem, *],by simp [go_sem, *],fun i=>by simp [go_sem,hf],by simpa [World.setCell]using hs⟩
end
section
open Go.ChangeShapes Go.WideShapes Go.ChangeAt Go.RowKit
theorem Ec(y n:Int)(l:Bool)(d z k:Int)(h:Bool)(f s a b c q e:Int)(i j:Int)(ry rn:Int)(rl:Bool)(rd er:Int)(g:Nat)(w:World)(hT:Tab w 6 kevCells)(hL:Tab w 4 lenCells)(hp:aS w g y n l d z k h f s a b c q e)(HA:Hid (∀w:World,Tab w 6 kevCells->Tab w 4 lenCells->vB 36 #[.agg #[y,n,l,d],.agg #[i,j,(0:Int),(0:Int)],(0:Int)] w (.tuple #[.agg #[ry,rn,rl,rd],er])))(h0:(er !=0)=true):
  vB 124 #[.pointer (some ⟨g,0,none⟩),.agg #[i,j,(0:Int),(0:Int)]] w (.bool (false)):=by
 go_enter (vF Tryz.func124),Tryz.ntmps124
 go_wp2_with fail
 refine settle (fun W=>aS W g y n l d z k h f s a b c q e/\W.cell? ⟨w.1.size,0,none⟩=some (i:vV)/\W.cell? ⟨w.1.size,1,none⟩=some (j:vV)/\W.cell? ⟨w.1.size,2,none⟩=some (.int .i64 0)/\W.cell? ⟨w.1.size,3,none⟩=some (.int .i64 0)/\w.1.size<W.1.size/\Below w.1.size w W) ⟨aU hp (ba _ _),vG,vG,vG,vG,vS,ba _ _⟩ ?_
 rintro W0 ⟨hP0,c0,c1,c2,c3,hl1,hB0⟩
 have hT0:=Tab.below hT hB0
 have hL0:=Tab.below hL hB0
 clear hp
 have hq:=hP0
 obtain⟨x0,x1,x2,x3,x4,x5,x6,x7,x8,x9,x10,x11,x12,x13,xf,xs⟩:=hq
 have hl0:=xs
 have kc0:=x0
 have kc1:=x1
 have kc2:=x2
 have kc3:=x3
 have kc4:=c0
 have kc5:=c1
 have kc6:=c2
 have kc7:=c3
 clear c0 c1 c2 c3
 clear x0 x1 x2 x3 x4 x5 x6 x7 x8 x9 x10 x11 x12 x13 xf xs
 go_cut [5,6]from 16 (fun v5 v6 wx=>∃r:Nat,v5= .pointer (some ⟨r,0,none⟩)/\v6= .int .i64 (er)/\Az wx r ry rn rl rd/\aS wx g y n l d z k h f s a b c q e/\Below w.1.size w wx)
 case first=>
  have nn0:=World.new_ne W0 _ kc0
  have nn1:=World.new_ne W0 _ kc1
  have nn2:=World.new_ne W0 _ kc2
  have nn3:=World.new_ne W0 _ kc3
  have nn4:=World.new_ne W0 _ kc4
  have nn5:=World.new_ne W0 _ kc5
  have nn6:=World.new_ne W0 _ kc6
  have nn7:=World.new_ne W0 _ kc7
  go_region_held3 (fun x=>x.cell? ⟨g,0,none⟩=some (y:vV)/\x.cell? ⟨g,1,none⟩=some (n:vV)/\x.cell? ⟨g,2,none⟩=some (.bool l)/\x.cell? ⟨g,3,none⟩=some (d:vV)/\x.cell? ⟨w.1.size,0,none⟩=some (i:vV)/\x.cell? ⟨w.1.size,1,none⟩=some (j:vV)/\x.cell? ⟨w.1.size,2,none⟩=some (.int .i64 0)/\x.cell? ⟨w.1.size,3,none⟩=some (.int .i64 0)) (first|exact⟨by with_reducible assumption,by with_reducible assumption,by with_reducible assumption,by with_reducible assumption,by with_reducible assumption,by with_reducible assumption,by with_reducible assumption,by with_reducible assumption⟩|go_keep) (first|(go_at_call 36;refine(HA.out _ (Tab.below hT0 beq4) (Tab.below hL0 beq4)).mono ?_;rintro e W2 ⟨rfl,hb2⟩;have hW2:=bt (show Below W0.1.size W0 _ by repeat(first|(with_reducible exact Below.refl _ _)|(with_reducible refine aT ?_)|(with_reducible refine baa ?_ _))) hb2;have hz2:=hW2.size;have kk0:=(hW2.cell (p:=⟨g,0,none⟩) hl0).trans kc0;have kk1:=(hW2.cell (p:=⟨g,1,none⟩) hl0).trans kc1;have kk2:=(hW2.cell (p:=⟨g,2,none⟩) hl0).trans kc2;have kk3:=(hW2.cell (p:=⟨g,3,none⟩) hl0).trans kc3;have kk4:=(hW2.cell (p:=⟨w.1.size,0,none⟩) hl1).trans kc4;have kk5:=(hW2.cell (p:=⟨w.1.size,1,none⟩) hl1).trans kc5;have kk6:=(hW2.cell (p:=⟨w.1.size,2,none⟩) hl1).trans kc6;have kk7:=(hW2.cell (p:=⟨w.1.size,3,none⟩) hl1).trans kc7;have hm0:=Nat.lt_of_lt_of_le hl0 hz2;have hm1:=Nat.lt_of_lt_of_le hl1 hz2;obtain⟨hc2,hf2⟩:=aL hb2;have nx0:=World.new_ne W2 _ kk0;have nx1:=World.new_ne W2 _ kk1;have nx2:=World.new_ne W2 _ kk2;have nx3:=World.new_ne W2 _ kk3;have nx4:=World.new_ne W2 _ kk4;have nx5:=World.new_ne W2 _ kk5;have nx6:=World.new_ne W2 _ kk6;have nx7:=World.new_ne W2 _ kk7))
  all_goals simp only [Exit.then]
  all_goals refine ‹∀ (a':Act) (w':World),Met _ a' w'->_› _ _ ?_
  all_goals go_meet
  ·refine⟨W2.1.size,rfl,rfl, ?_, ?_, ?_⟩
   ·first|exact jH _ _ _ _ _ _|exact lZ (jH _ _ _ _ _ _) _ _ _ _
   ·refine aU hP0 ?_
    exact bel
   ·refine bt hB0 ?_
    exact bel
  ·refine⟨W0.1.size,rfl,rfl, ?_, ?_, ?_⟩
   ·exact lZ (zT (GX (jH W0 0 0 false 0 33)) hb2) _ _ _ _
   ·refine aU hP0 ?_
    exact bel
   ·refine bt hB0 ?_
    exact bel
 case rest=>
  obtain⟨r,rfl,rfl,hD1,hP1,hB1⟩:=hcut
  clear kc0 kc1 kc2 kc3 kc4 kc5 kc6 kc7 hP0 hB0 hT0 hL0 hl0 hl1
  have hq:=hP1
  obtain⟨x0,x1,x2,x3,x4,x5,x6,x7,x8,x9,x10,x11,x12,x13,xf,xs⟩:=hq
  go_wp2_with fail
  go_ret
  exact⟨rfl,hB1⟩
theorem pK:(∀(y n:Int)(l:Bool)(d z k:Int)(h:Bool)(f s a b c q e:Int)(i j:Int)(ry rn:Int)(rl:Bool)(rd:Int)(lv:Bool)(g:Nat)(w:World)(hT:Tab w 6 kevCells)(hL:Tab w 4 lenCells)(hp:aS w g y n l d z k h f s a b c q e)(HA:Hid (∀w:World,Tab w 6 kevCells->Tab w 4 lenCells->vB 36 #[.agg #[y,n,l,d],.agg #[i,j,(0:Int),(0:Int)],(0:Int)] w (.tuple #[.agg #[ry,rn,rl,rd],(0:Int)])))(HL2:Hid (∀w:World,vB 121 #[.agg #[z,k,h,f],.agg #[ry,rn,rl,rd]] w (.bool lv)))(hs0:0<=s),vB 124 #[.pointer (some ⟨g,0,none⟩),.agg #[i,j,(0:Int),(0:Int)]] w (.bool (!lv)))/\(∀(y n:Int)(l:Bool)(d z k:Int)(h:Bool)(f s a b c q e:Int)(i j:Int)(ry rn:Int)(rl:Bool)(rd:Int)(lv:Bool)(g:Nat)(w:World)(hT:Tab w 6 kevCells)(hL:Tab w 4 lenCells)(hp:aS w g y n l d z k h f s a b c q e)(HA:Hid (∀w:World,Tab w 6 kevCells->Tab w 4 lenCells->vB 36 #[.agg #[y,n,l,d],.agg #[i,j,(0:Int),(0:Int)],(0:Int)] w (.tuple #[.agg #[ry,rn,rl,rd],(0:Int)])))(HL2:Hid (∀w:World,vB 121 #[.agg #[ry,rn,rl,rd],.agg #[z,k,h,f]] w (.bool lv)))(hs0:s<0),vB 124 #[.pointer (some ⟨g,0,none⟩),.agg #[i,j,(0:Int),(0:Int)]] w (.bool (!lv))):=by
 refine⟨@fun y n l d z k h f s a b c q e i j ry rn rl rd lv g w hT hL hp HA HL2 hs0=>(fun(k90:Nat)=> ?_) 0,@fun y n l d z k h f s a b c q e i j ry rn rl rd lv g w hT hL hp HA HL2 hs0=> ?_⟩
 all_goals(
 go_enter (vF Tryz.func124),Tryz.ntmps124
 go_wp2_with fail
 refine settle (fun W=>aS W g y n l d z k h f s a b c q e/\W.cell? ⟨w.1.size,0,none⟩=some (i:vV)/\W.cell? ⟨w.1.size,1,none⟩=some (j:vV)/\W.cell? ⟨w.1.size,2,none⟩=some (.int .i64 0)/\W.cell? ⟨w.1.size,3,none⟩=some (.int .i64 0)/\w.1.size<W.1.size/\Below w.1.size w W) ⟨aU hp (ba _ _),vG,vG,vG,vG,vS,ba _ _⟩ ?_
 rintro W0 ⟨hP0,c0,c1,c2,c3,hl1,hB0⟩
 have hT0:=Tab.below hT hB0
 have hL0:=Tab.below hL hB0
 clear hp
 have hq:=hP0
 obtain⟨x0,x1,x2,x3,x4,x5,x6,x7,x8,x9,x10,x11,x12,x13,xf,xs⟩:=hq
 have hl0:=xs
 have kc0:=x0
 have kc1:=x1
 have kc2:=x2
 have kc3:=x3
 have kc4:=c0
 have kc5:=c1
 have kc6:=c2
 have kc7:=c3
 clear c0 c1 c2 c3
 clear x0 x1 x2 x3 x4 x5 x6 x7 x8 x9 x10 x11 x12 x13 xf xs
 go_cut [5,6]from 16 (fun v5 v6 wx=>∃r:Nat,v5= .pointer (some ⟨r,0,none⟩)/\v6= .int .i64 (0)/\Az wx r ry rn rl rd/\aS wx g y n l d z k h f s a b c q e/\Below w.1.size w wx)
 case first=>
  have nn0:=World.new_ne W0 _ kc0
  have nn1:=World.new_ne W0 _ kc1
  have nn2:=World.new_ne W0 _ kc2
  have nn3:=World.new_ne W0 _ kc3
  have nn4:=World.new_ne W0 _ kc4
  have nn5:=World.new_ne W0 _ kc5
  have nn6:=World.new_ne W0 _ kc6
  have nn7:=World.new_ne W0 _ kc7
  go_region_held3 (fun x=>x.cell? ⟨g,0,none⟩=some (y:vV)/\x.cell? ⟨g,1,none⟩=some (n:vV)/\x.cell? ⟨g,2,none⟩=some (.bool l)/\x.cell? ⟨g,3,none⟩=some (d:vV)/\x.cell? ⟨w.1.size,0,none⟩=some (i:vV)/\x.cell? ⟨w.1.size,1,none⟩=some (j:vV)/\x.cell? ⟨w.1.size,2,none⟩=some (.int .i64 0)/\x.cell? ⟨w.1.size,3,none⟩=some (.int .i64 0)) (first|exact⟨by with_reducible assumption,by with_reducible assumption,by with_reducible assumption,by with_reducible assumption,by with_reducible assumption,by with_reducible assumption,by with_reducible assumption,by with_reducible assumption⟩|go_keep) (first|(go_at_call 36;refine(HA.out _ (Tab.below hT0 beq4) (Tab.below hL0 beq4)).mono ?_;rintro e W2 ⟨rfl,hb2⟩;have hW2:=bt (show Below W0.1.size W0 _ by repeat(first|(with_reducible exact Below.refl _ _)|(with_reducible refine aT ?_)|(with_reducible refine baa ?_ _))) hb2;have hz2:=hW2.size;have kk0:=(hW2.cell (p:=⟨g,0,none⟩) hl0).trans kc0;have kk1:=(hW2.cell (p:=⟨g,1,none⟩) hl0).trans kc1;have kk2:=(hW2.cell (p:=⟨g,2,none⟩) hl0).trans kc2;have kk3:=(hW2.cell (p:=⟨g,3,none⟩) hl0).trans kc3;have kk4:=(hW2.cell (p:=⟨w.1.size,0,none⟩) hl1).trans kc4;have kk5:=(hW2.cell (p:=⟨w.1.size,1,none⟩) hl1).trans kc5;have kk6:=(hW2.cell (p:=⟨w.1.size,2,none⟩) hl1).trans kc6;have kk7:=(hW2.cell (p:=⟨w.1.size,3,none⟩) hl1).trans kc7;have hm0:=Nat.lt_of_lt_of_le hl0 hz2;have hm1:=Nat.lt_of_lt_of_le hl1 hz2;obtain⟨hc2,hf2⟩:=aL hb2;have nx0:=World.new_ne W2 _ kk0;have nx1:=World.new_ne W2 _ kk1;have nx2:=World.new_ne W2 _ kk2;have nx3:=World.new_ne W2 _ kk3;have nx4:=World.new_ne W2 _ kk4;have nx5:=World.new_ne W2 _ kk5;have nx6:=World.new_ne W2 _ kk6;have nx7:=World.new_ne W2 _ kk7))
  all_goals simp only [Exit.then]
  all_goals refine ‹∀ (a':Act) (w':World),Met _ a' w'->_› _ _ ?_
  all_goals go_meet
  ·refine⟨W2.1.size,rfl,rfl, ?_, ?_, ?_⟩
   ·first|exact jH _ _ _ _ _ _|exact lZ (jH _ _ _ _ _ _) _ _ _ _
   ·refine aU hP0 ?_
    exact bel
   ·refine bt hB0 ?_
    exact bel
  ·refine⟨W0.1.size,rfl,rfl, ?_, ?_, ?_⟩
   ·exact lZ (zT (GX (jH W0 0 0 false 0 33)) hb2) _ _ _ _
   ·refine aU hP0 ?_
    exact bel
   ·refine bt hB0 ?_
    exact bel
 case rest=>
  obtain⟨r,rfl,rfl,hD1,hP1,hB1⟩:=hcut
  clear kc0 kc1 kc2 kc3 kc4 kc5 kc6 kc7 hP0 hB0 hT0 hL0 hl0 hl1
  have hq:=hP1
  obtain⟨x0,x1,x2,x3,x4,x5,x6,x7,x8,x9,x10,x11,x12,x13,xf,xs⟩:=hq
  have hq:=hD1
  obtain⟨c0,c1,c2,c3,cf,cs⟩:=hq
  go_wp2_with fail
  refine fE 5 vK ?_
  first|(have _:=k90;refine up 0 (v:= ?_) rfl ?_ ?_)|(refine ur 0 (v:= ?_) rfl ?_ ?_)
  rotate_left 1
  ·first|(have _:=k90;first|(intro w;go_simp;done)|(intro w;go_simp;with_reducible rfl))|(first|(go_simp;done)|(go_simp;with_reducible rfl))
  try simp only [Act.put,List.setIfInBounds_toArray]
  refine up 1 (v:= ?_) rfl ?_ ?_
  rotate_left 1
  ·first|(intro w;go_simp;done)|(intro w;go_simp;with_reducible rfl)
  try simp only [Act.put,List.setIfInBounds_toArray]
  refine up 2 (v:= ?_) rfl ?_ ?_
  rotate_left 1
  ·first|(intro w;go_simp;done)|(intro w;go_simp;with_reducible rfl)
  try simp only [Act.put,List.setIfInBounds_toArray]
  first|(have _:=k90;refine ur 3 (v:= ?_) rfl ?_ ?_)|(refine up 3 (v:= ?_) rfl ?_ ?_)
  rotate_left 1
  ·first|(have _:=k90;first|(go_simp;done)|(go_simp;with_reducible rfl))|(first|(intro w;go_simp;done)|(intro w;go_simp;with_reducible rfl))
  try simp only [Act.put,List.setIfInBounds_toArray]
  refine ur 4 (v:= ?_) rfl ?_ ?_
  rotate_left 1
  ·first|(go_simp;done)|(go_simp;with_reducible rfl)
  try simp only [Act.put,List.setIfInBounds_toArray]
  refine bG (k:=5) rfl vK vK (fun K hK=> ?_)
  go_simp
  refine(HL2.out _).mono ?_
  rintro e w7 ⟨rfl,hb7⟩
  go_wp2_with fail
  refine hK.out _ _ ?_
  clear hK K
  try simp only [Act.put,List.setIfInBounds_toArray]
  refine uq 6 (v:= ?_) rfl ?_ ?_
  rotate_left 1
  ·first|(intro w;go_simp;done)|(intro w;go_simp;with_reducible rfl)
  try simp only [Act.put,List.setIfInBounds_toArray]
  refine uq 7 (v:= ?_) rfl ?_ ?_
  rotate_left 1
  ·first|(intro w;go_simp;done)|(intro w;go_simp;with_reducible rfl)
  try simp only [Act.put,List.setIfInBounds_toArray]
  refine iQ vK ?_ _
  try simp only [List.getElem_toArray,List.getElem_cons_succ,List.getElem_cons_zero,List.setIfInBounds_toArray,List.set_cons_succ,List.set_cons_zero]
  go_wp2_with fail
  go_ret
  exact⟨rfl,bt (aT hB1) hb7⟩
 )
def Gc:=pK.1
def Cm:=pK.2
theorem Cx(y n:Int)(l:Bool)(d z k:Int)(h:Bool)(f s a b c q e:Int)(i j:Int)(g:Nat)(w:World)(hT:Tab w 6 kevCells)(hL:Tab w 4 lenCells)(hp:aS w g y n l d z k h f s a b c q e)(hy:I64 y)(ht:D10.aK z k h f=0):
  vB 124 #[.pointer (some ⟨g,0,none⟩),.agg #[i,j,(0:Int),(0:Int)]] w (.bool (U17.fit y n l d i j s (D10.aM z k h f))):=by
 obtain⟨ry,rn,rl,rd,er,hto⟩:=A16.O1 y n l d i j 0 0 0
 have HA:=Lib.hid (fun w hT hL=>Ui y n l d i j 0 0 0 w hy hT hL ry rn rl rd er (Lib.hid hto))
 have e0:=hto.e
 by_cases c0:A16.toE y n l d i j 0 0 0=0
 ·obtain⟨r0,r1,r2,r3,r4⟩:=hto.date c0
  subst r0
  by_cases hs0:s<0
  ·have HL2:=Lib.hid (fun w=>Jy ry rn rl rd z k h f w)
   rw [D10.JR r1 ht]at HL2
   have hv:U17.fit y n l d i j s (D10.aM z k h f)= !decide (D10.aM ry rn rl rd<(D10.aM z k h f)):=by
    unfold U17.fit U17.nb
    rw [decide_eq_true c0,if_pos hs0,←r2,Bool.true_and]
    rw [Bool.eq_iff_iff];simp
   rw [hv]
   exact Cm y n l d z k h f s a b c q e i j ry rn rl rd _ g w hT hL hp HA HL2 hs0
  ·have HL2:=Lib.hid (fun w=>Jy z k h f ry rn rl rd w)
   rw [D10.JR ht r1]at HL2
   have hv:U17.fit y n l d i j s (D10.aM z k h f)= !decide ((D10.aM z k h f)<D10.aM ry rn rl rd):=by
    unfold U17.fit U17.nb
    rw [decide_eq_true c0,if_neg hs0,←r2,Bool.true_and]
    rw [Bool.eq_iff_iff];simp
   rw [hv]
   exact Gc y n l d z k h f s a b c q e i j ry rn rl rd _ g w hT hL hp HA HL2 vO
 ·rw [show U17.fit y n l d i j s (D10.aM z k h f)=false by unfold U17.fit;rw [decide_eq_false c0];rfl]
  exact Ec y n l d z k h f s a b c q e i j ry rn rl rd er g w hT hL hp HA (by rw [e0];simpa using c0)
end
end Go.Proofs.YtljbnicolhhicaaGreatDoor
