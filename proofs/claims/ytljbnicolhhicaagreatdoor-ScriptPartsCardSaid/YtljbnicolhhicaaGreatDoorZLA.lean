import Derived.Shelf.Bits.Mul64
import Derived.Test.YtljbnicolhhicaaGreatDoorZPo
import Derived.Deep.Light
import Derived.Lib.Hide
import Derived.BigQuiet
import Derived.Deep.RegionHeld3
set_option linter.defProp false
set_option maxHeartbeats 8000000
set_option maxRecDepth 100000
set_option linter.unusedVariables false
namespace Go.Proofs.YtljbnicolhhicaaGreatDoor
namespace Cal
def fits(n:Int):Bool:=decide (-9223372036854775808<=n)&&decide (n<=9223372036854775807)
def H8(a b:Int):Int:=if fits (a+b)then a+b else 0
def Ji(a b:Int):Int:=if fits (a+b)then 0 else 6
def KC(a b:Int):Int:=if fits (a*b)then a*b else 0
def Kl(a b:Int):Int:=if fits (a*b)then 0 else 6
def Oc(a b:Int):Int:=if b<=0 then 0 else a / b
def Q7(b:Int):Int:=if b<=0 then 1 else 0
def NU(a b:Int):Int:=if b<=0 then 0 else a % b
def force{α:Type}(n:Nat)(f:Nat->α):α:=match n with|0=>f 0|k+1=>f (Nat.succ k)
theorem force_eq{α:Type}(n:Nat)(f:Nat->α):force n f=f n:=by cases n <;> rfl
def pE(f:Nat->Bool):Nat->Nat->Bool
 |0,lo=>f lo
 |k+1,lo=>and (pE f k lo) (force (Nat.add lo (Nat.pow 2 k)) (pE f k))
theorem nH(f:Nat->Bool)(k:Nat):∀lo,pE f k lo=true->∀n,lo<=n->n<lo+2 ^ k->f n=true:=by
 induction k with
 | zero => intro lo h n h1 h2;simp at h2;have:n=lo:=vO
           subst this;exact h
 |succ k ih=>
  intro lo h n h1 h2
  simp only [pE,force_eq]at h
  rw [Bool.and_eq_true]at h
  by_cases hn:n<lo+2 ^ k
  ·exact ih lo h.1 n h1 hn
  ·exact ih (lo+2 ^ k) h.2 n vO (by rw [Nat.pow_succ]at h2;omega)
theorem Qv(a b:Int)(hb:0<b)(h:a.tmod b<0):a.tdiv b-1=a / b/\a.tmod b+b=a % b:=by
 have h1:=Int.tmod_add_mul_tdiv a b
 have h2:=Int.lt_tmod_of_pos a hb
 have h3:=(Int.ediv_emod_unique (a:=a) (r:=a.tmod b+b) (q:=a.tdiv b-1) hb).2 ⟨by rw [Int.mul_sub];omega,vO,vO⟩
 exact⟨h3.1.symm,h3.2.symm⟩
theorem Mv(a b:Int)(hb:0<b)(h:0<=a.tmod b):a.tdiv b=a / b/\a.tmod b=a % b:=by
 have h1:=Int.tmod_add_mul_tdiv a b
 have h2:=Int.tmod_lt_of_pos a hb
 have h3:=(Int.ediv_emod_unique (a:=a) (r:=a.tmod b) (q:=a.tdiv b) hb).2 ⟨vO,h,h2⟩
 exact⟨h3.1.symm,h3.2.symm⟩
def leap(y:Int):Bool:=decide ((7*y+1) % 19<7)
def months(y:Int):Int:=if leap y then 13 else 12
def before(y:Int):Int:=(235*y-234) / 19
def D7(y:Int):Bool:=decide (0<=y)&&decide (y<=10001)
def Cc(y:Int):Bool:=D7 y&&leap y
def fF(y:Int):Int:=if D7 y then 0 else 2
def pG(y:Int):Int:=if D7 y then months y else 0
def Di(y:Int):Int:=if D7 y then before y else 0
def dw(n:Int):Int:=(5604+765433*n) / 25920-1373427
def dh(n:Int):Int:=(5604+765433*n) % 25920
def AY(n:Int):Bool:=decide (-200000<=n)&&decide (n<=200000)
def Pj(n:Int):Int:=if AY n then 0 else 2
def QT(n:Int):Int:=if AY n then dw n else 0
def Sr(n:Int):Int:=if AY n then dh n else 0
def TI(y m:Int):Bool:=decide (1<=m)&&decide (m<=months y)
def ofE(y m:Int):Int:=if D7 y then(if TI y m then 0 else 3)else 2
def ofD(y m:Int):Int:=if D7 y&&TI y m then dw (before y+m-1)else 0
def ofP(y m:Int):Int:=if D7 y&&TI y m then dh (before y+m-1)else 0
def AZ(w p:Int)(leap after:Bool):Int:=
 if 19440<=p then 1 else if(!leap&&(w==2)&&decide (9924<=p))then 1 else if(after&&(w==1)&&decide (16789<=p))then 1 else 0
def delay(d p:Int)(leap after:Bool):Int:=
 let n:=AZ (d % 7) p leap after
 if(d % 7+n) % 7=0∨(d % 7+n) % 7=3∨(d % 7+n) % 7=5 then n+1 else n
def first(y:Int):Int:=dw (before y)+delay (dw (before y)) (dh (before y)) (leap y) (leap (y-1))
def oW(y:Int):Int:=if D7 y then first y else 0
def jo(m:Int):Int:=29*m+(12084+13753*m) / 25920
def nearly(y:Int):Int:=let d:=jo (before y);if(3*d+3) % 7<3 then d+1 else d
def DY(y:Int):Bool:=decide (-1<=y)&&decide (y<=10002)
def Qs(y:Int):Int:=if DY y then 0 else 2
def Sc(y:Int):Int:=if DY y then nearly y else 0
def Ot(y:Int):Int:=
 if nearly (y+1)-nearly y=356 then nearly y+2-1373427 else if nearly y-nearly (y-1)=382 then nearly y+1-1373427 else nearly y-1373427
def lpN(y:Nat):Bool:=Nat.blt (Nat.mod (Nat.add (Nat.mul 7 y) 1) 19) 7
def yx(y:Nat):Nat:=Nat.div (Nat.sub (Nat.mul 235 y) 234) 19
def Ei(w p:Nat)(lp af:Bool):Nat:=cond (Nat.ble 19440 p) 1 (cond (and (not lp) (and (Nat.beq w 2) (Nat.ble 9924 p))) 1 (cond (and af (and (Nat.beq w 1) (Nat.ble 16789 p))) 1 0))
def WX(w:Nat):Bool:=or (Nat.beq w 0) (or (Nat.beq w 3) (Nat.beq w 5))
def zK{α:Type}(y:Nat)(k:Nat->α):α:=
 force (yx y) fun mo=>force (Nat.add 5604 (Nat.mul 765433 mo)) fun mm=>force (Nat.div mm 25920) fun d=>force (Nat.mod mm 25920) fun p=>
 force (Nat.mod (Nat.add d 1) 7) fun w=>force (Ei w p (lpN y) (lpN (Nat.sub y 1))) fun n=>force (Nat.mod (Nat.add w n) 7) fun w2=>
 force (Nat.add d (Nat.add n (cond (WX w2) 1 0))) k
def JK{α:Type}(y:Nat)(k:Nat->α):α:=
 force (yx y) fun mo=>force (Nat.add (Nat.mul 29 mo) (Nat.div (Nat.add 12084 (Nat.mul 13753 mo)) 25920)) fun d=>
 force (cond (Nat.blt (Nat.mod (Nat.add (Nat.mul 3 d) 3) 7) 3) (Nat.add d 1) d) k
def fT(y:Nat):Nat:=zK y id
def uR(y:Nat):Nat:=JK y id
theorem LC{α:Type}(y:Nat)(k:Nat->α):zK y k=k (fT y):=by simp only [fT,zK,force_eq,id]
theorem Yj{α:Type}(y:Nat)(k:Nat->α):JK y k=k (uR y):=by simp only [uR,JK,force_eq,id]
def okN(y:Nat):Bool:=
 zK y fun a=>zK (Nat.succ y) fun b=>force (cond (lpN y) (Nat.sub (Nat.sub b a) 30) (Nat.sub b a)) fun n=>force (Nat.mod (Nat.add a 1) 7) fun w=>
 JK (Nat.pred y) fun n0=>JK y fun n1=>JK (Nat.succ y) fun n2=>
 and (or (Nat.beq n 353) (or (Nat.beq n 354) (Nat.beq n 355))) (and (not (WX w)) (Nat.beq a (cond (Nat.beq (Nat.sub n2 n1) 356) (Nat.add n1 2) (cond (Nat.beq (Nat.sub n1 n0) 382) (Nat.add n1 1) n1))))
theorem okN1:pE okN 13 2=true:=by decide+kernel
theorem okN2:pE okN 11 8194=true:=by decide+kernel
theorem aay(y:Nat)(h0:2<=y)(h1:y<=10001):okN y=true:=by
 by_cases h:y<8194
 ·exact nH _ _ _ okN1 y h0 vO
 ·exact nH _ _ _ okN2 y vO vO
theorem RP(y:Nat)(h0:2<=y)(h1:y<=10001):
  ((fT (y+1)-fT y-(if lpN y then 30 else 0)=353∨fT (y+1)-fT y-(if lpN y then 30 else 0)=354∨fT (y+1)-fT y-(if lpN y then 30 else 0)=355)/\
   ((fT y+1) % 7≠0/\(fT y+1) % 7≠3/\(fT y+1) % 7≠5))/\
   fT y=if uR (y+1)-uR y=356 then uR y+2 else if uR y-uR (y-1)=382 then uR y+1 else uR y:=by
 have h:=aay y h0 h1
 unfold okN at h
 simp only [LC,Yj,force_eq]at h
 rw [Bool.and_eq_true,Bool.and_eq_true]at h
 obtain⟨h1,h2,h3⟩:=h
 refine⟨⟨?_, ?_⟩, ?_⟩
 ·simp only [Bool.or_eq_true,Nat.beq_eq]at h1
  cases hl:lpN y <;> rw [hl]at h1 <;> simpa using h1
 ·simp only [WX,Bool.not_eq_true',Bool.or_eq_false_iff]at h2
  exact⟨Nat.ne_of_beq_eq_false h2.1,Nat.ne_of_beq_eq_false h2.2.1,Nat.ne_of_beq_eq_false h2.2.2⟩
 ·rw [Nat.beq_eq]at h3
  simp only [Bool.cond_eq_ite,Nat.beq_eq]at h3
  exact h3
theorem Pn(a b c m:Nat):(((a+b*m) / c:Nat):Int)=((a:Int)+b*m) / c:=by rw [Int.natCast_ediv,Int.natCast_add,Int.natCast_mul]
theorem Yz(a b c m:Nat):(((a+b*m) % c:Nat):Int)=((a:Int)+b*m) % c:=by rw [Int.natCast_emod,Int.natCast_add,Int.natCast_mul]
theorem LK(a b c m:Nat):(((b*m+a) % c:Nat):Int)=((b:Int)*m+a) % c:=by rw [Int.natCast_emod,Int.natCast_add,Int.natCast_mul]
theorem II(y:Nat):leap (y:Int)=lpN y:=by
 rw [Bool.eq_iff_iff]
 unfold leap lpN
 rw [decide_eq_true_eq,Nat.blt_eq]
 show(7*(y:Int)+1) % 19<7↔(7*y+1) % 19<7
 have e:(((7*y+1) % 19:Nat):Int)=(7*(y:Int)+1) % 19:=LK 1 7 19 y
 omega
theorem U6(y:Nat)(h:1<=y):before (y:Int)=(yx y:Int):=by
 show(235*(y:Int)-234) / 19=(((235*y-234) / 19:Nat):Int)
 omega
theorem V6(w p:Nat)(lp af:Bool):AZ (w:Int) (p:Int) lp af=(Ei w p lp af:Int):=by
 have e1:Nat.ble 19440 p=decide (19440<=(p:Int)):=by rw [Bool.eq_iff_iff,Nat.ble_eq,decide_eq_true_eq];omega
 have e2:Nat.ble 9924 p=decide (9924<=(p:Int)):=by rw [Bool.eq_iff_iff,Nat.ble_eq,decide_eq_true_eq];omega
 have e3:Nat.ble 16789 p=decide (16789<=(p:Int)):=by rw [Bool.eq_iff_iff,Nat.ble_eq,decide_eq_true_eq];omega
 have e4:Nat.beq w 2=((w:Int)==2):=by rw [Bool.eq_iff_iff,Nat.beq_eq,beq_iff_eq];omega
 have e5:Nat.beq w 1=((w:Int)==1):=by rw [Bool.eq_iff_iff,Nat.beq_eq,beq_iff_eq];omega
 unfold AZ Ei
 rw [e1,e2,e3,e4,e5]
 simp only [Bool.cond_eq_ite,decide_eq_true_eq,Bool.and_assoc]
 split
 ·rfl
 ·split
  ·rfl
  ·split <;> rfl
theorem aae(w:Nat):WX w=decide (w=0∨w=3∨w=5):=by
 rw [Bool.eq_iff_iff]
 unfold WX
 simp only [Bool.or_eq_true,Nat.beq_eq,decide_eq_true_eq]
theorem lY(y:Nat)(h:2<=y):first (y:Int)=(fT y:Int)-1373427:=by
 have hn:fT y=(5604+765433*yx y) / 25920+(Ei (((5604+765433*yx y) / 25920+1) % 7) ((5604+765433*yx y) % 25920) (lpN y) (lpN (y-1))+
   cond (WX ((((5604+765433*yx y) / 25920+1) % 7+Ei (((5604+765433*yx y) / 25920+1) % 7) ((5604+765433*yx y) % 25920) (lpN y) (lpN (y-1))) % 7)) 1 0):=by
  simp only [fT,zK,force_eq,id]
  rfl
 rw [hn]
 unfold first delay
 rw [U6 y vO,II y,show((y:Int)-1)=((y-1:Nat):Int) by omega,II (y-1)]
 generalize yx y=m
 generalize lpN y=lp
 generalize lpN (y-1)=af
 have hd:dw (m:Int)=(((5604+765433*m) / 25920:Nat):Int)-1373427:=by unfold dw;rw [show(((5604+765433*m) / 25920:Nat):Int)=(5604+765433*(m:Int)) / 25920 from Pn 5604 765433 25920 m]
 have hp:dh (m:Int)=(((5604+765433*m) % 25920:Nat):Int):=by(exact(Yz 5604 765433 25920 m).symm)
 have hw:dw (m:Int) % 7=((((5604+765433*m) / 25920+1) % 7:Nat):Int):=by
  rw [hd]
  generalize (5604+765433*m) / 25920=d
  omega
 simp only [hw,hp,V6]
 rw [hd]
 generalize (5604+765433*m) % 25920=p
 generalize (5604+765433*m) / 25920=d
 generalize Ei ((d+1) % 7) p lp af=n
 rw [aae,Bool.cond_eq_ite]
 simp only [decide_eq_true_eq]
 split <;> split <;> omega
theorem IU(y:Nat)(h:1<=y):nearly (y:Int)=(uR y:Int):=by
 have hn:uR y=cond (Nat.blt ((3*(29*yx y+(12084+13753*yx y) / 25920)+3) % 7) 3) (29*yx y+(12084+13753*yx y) / 25920+1) (29*yx y+(12084+13753*yx y) / 25920):=by
  simp only [uR,JK,force_eq,id]
  rfl
 rw [hn]
 unfold nearly jo
 rw [U6 y h]
 generalize yx y=m
 have e0:(((12084+13753*m) / 25920:Nat):Int)=(12084+13753*(m:Int)) / 25920:=Pn 12084 13753 25920 m
 have e:(29*(m:Int)+(12084+13753*(m:Int)) / 25920)=((29*m+(12084+13753*m) / 25920:Nat):Int):=by
  rw [←e0];omega
 simp only [e]
 generalize 29*m+(12084+13753*m) / 25920=d
 have e2:(((3*d+3) % 7:Nat):Int)=(3*(d:Int)+3) % 7:=LK 3 3 7 d
 simp only [Bool.cond_eq_ite,Nat.blt_eq]
 split <;> split <;> omega
theorem DU(y:Int)(h0:0<=y)(h1:y<=10000):
  first (y+1)-first y-(if leap y then 30 else 0)=353∨first (y+1)-first y-(if leap y then 30 else 0)=354∨first (y+1)-first y-(if leap y then 30 else 0)=355:=by
 by_cases h2:y<2
 ·have:y=0∨y=1:=vO
  rcases this with rfl|rfl <;> decide+kernel
 ·obtain⟨n,rfl⟩:=Int.eq_ofNat_of_zero_le h0
  have h:=(RP n vO vO).1.1
  have e:((n:Int)+1)=((n+1:Nat):Int):=vO
  rw [e,lY n vO,lY (n+1) vO,II n]
  cases hl:lpN n <;> rw [hl]at h <;> simp only [Bool.false_eq_true,if_true,if_false]at h⊢ <;> omega
theorem Xa(y:Int)(h0:0<=y)(h1:y<=10001):Ot y=first y:=by
 by_cases h2:y<2
 ·have:y=0∨y=1:=vO
  rcases this with rfl|rfl <;> decide+kernel
 ·obtain⟨n,rfl⟩:=Int.eq_ofNat_of_zero_le h0
  have h:=(RP n vO vO).2
  have e:((n:Int)+1)=((n+1:Nat):Int):=vO
  have e':((n:Int)-1)=((n-1:Nat):Int):=vO
  unfold Ot
  rw [e,e',lY n vO,IU n vO,IU (n+1) vO,IU (n-1) vO]
  split at h
  ·rw [h,if_pos vO];omega
  ·rw [if_neg vO]
   split at h
   ·rw [h,if_pos vO];omega
   ·rw [h,if_neg vO]
end Cal
end Go.Proofs.YtljbnicolhhicaaGreatDoor
namespace Go.Proofs.YtljbnicolhhicaaGreatDoor
namespace Cal
def GH(d h p:Int):Bool:=fits (d*25920)&&fits (h*1080)&&fits (d*25920+h*1080)&&fits (d*25920+h*1080+p)
def I8(d h p:Int):Int:=if GH d h p then d*25920+h*1080+p else 0
def Io(d h p:Int):Int:=if GH d h p then 0 else 6
theorem GR(d h p:Int)(hx:(fits (d*25920)&&fits (h*1080)&&fits (d*25920+h*1080))=false):I8 d h p=0/\Io d h p=6:=by
 unfold I8 Io GH
 rw [hx]
 exact⟨rfl,rfl⟩
theorem Ij(d h p:Int)(h1:fits (d*25920)=true)(h2:fits (h*1080)=true)(h3:fits (d*25920+h*1080)=true):
  I8 d h p=H8 (d*25920+h*1080) p/\Io d h p=Ji (d*25920+h*1080) p:=by
 unfold I8 Io GH H8 Ji
 rw [h1,h2,h3]
 exact⟨rfl,rfl⟩
end Cal
end Go.Proofs.YtljbnicolhhicaaGreatDoor
namespace Go.Proofs
open Go.Shelf
namespace YtljbnicolhhicaaGreatDoor
def Q5:Go.Shelf.Ren:=⟨fun|264=>191|n=>n,fun|53=>205|46=>177|n=>n,fun|n=>n⟩
theorem ZU:Go.Proofs.Lays.n264 Tryo.prog Q5:={
 mixed:=vK
 f264:=(vF Tryz.func191).trans (congrArg some vK)
 t46:=(aB Tryz.underlying177)
 a46:=(au (Tryo.isAgg 177) Tryz.isAgg177)
 z46:=(au (Tryo.sizeOf 177) Tryz.sizeOf177)
 v46:=(au (Tryo.zeroValue 177) Tryz.zeroValue177)
 t53:=(aB Tryz.underlying205)
 a53:=(au (Tryo.isAgg 205) Tryz.isAgg205)
 z53:=(au (Tryo.sizeOf 205) Tryz.sizeOf205)
 v53:=(au (Tryo.zeroValue 205) Tryz.zeroValue205)}
open Go.RowKit Go.Lib in
theorem bits_Mul64(x y:Nat)(hx:x<18446744073709551616)(hy:y<18446744073709551616)(w:World):
  Calls Tryo.prog 191 #[.int .u64 x,.int .u64 y] w fun e w'=>e= .returned (.tuple #[.int .u64 ((x*y / 18446744073709551616:Nat):Int),.int .u64 ((x*y % 18446744073709551616:Nat):Int)])/\w'=w:=Any.bits_Mul64 ZU x y hx hy w
end YtljbnicolhhicaaGreatDoor
end Go.Proofs
namespace Go.Proofs.YtljbnicolhhicaaGreatDoor
open Go.ChangeShapes Go.WideShapes Go.ChangeAt Go.RowKit
def I64(a:Int):Prop:= -9223372036854775808<=a/\a<=9223372036854775807
theorem YR{a b:Int}(h:a=b):Ending.returned (.int .i64 a)= .returned (.int .i64 b):=by rw [h]
theorem Dl{a b:Bool}(h:a=b):Ending.returned (.bool a)= .returned (.bool b):=by rw [h]
theorem bM{a b c d:Int}(h:a=b)(h':c=d):Ending.returned (.tuple #[a,c])= .returned (.tuple #[b,d]):=by rw [h,h']
theorem XC{a b:Bool}{c d:Int}(h:a=b)(h':c=d):Ending.returned (.tuple #[a,c])= .returned (.tuple #[b,d]):=by rw [h,h']
theorem UJ(a b:Int)(ha:I64 a)(hb:0<b):I64 (a / b)/\(a.tmod b<0->I64 (a / b+1)):=by
 obtain⟨h1,h2⟩:=ha
 have k1: -9223372036854775808<=a / b:=by
  rw [Int.le_ediv_iff_mul_le hb]
  omega
 have k2:a / b<9223372036854775808:=by
  rw [Int.ediv_lt_iff_lt_mul hb]
  omega
 refine⟨⟨k1,vO⟩,fun h=> ?_⟩
 have k3:a / b<0:=by
  rw [Int.ediv_lt_iff_lt_mul hb]
  have hn:a<0:=by
   by_cases h0:0<=a
   ·have:=Int.tmod_nonneg (b:=b) h0;omega
   ·omega
  omega
 exact⟨vO,vO⟩
theorem abo(a b:Int)(ha:I64 a)(hb:0<b)(h:a.tmod b<0):wrap64 (wrap64 (a.tdiv b)-1)=Cal.Oc a b:=by
 obtain⟨e1,_⟩:=Cal.Qv a b hb h
 obtain⟨d1,d2⟩:=UJ a b ha hb
 have d2:=d2 h
 rw [Cal.Oc,if_neg vO,show a.tdiv b=a / b+1 by omega,IntWalk.wrap64_in _ d2,show a / b+1-1=a / b by omega,IntWalk.wrap64_in _ d1]
theorem abH(a b:Int)(ha:I64 a)(hb:0<b)(h:0<=a.tmod b):wrap64 (a.tdiv b)=Cal.Oc a b:=by
 obtain⟨e1,_⟩:=Cal.Mv a b hb h
 rw [Cal.Oc,if_neg vO,e1,IntWalk.wrap64_in _ (UJ a b ha hb).1]
theorem abX(a b:Int)(hb:0<b)(hb2:I64 b):I64 (a % b):=by
 have h1:=Int.emod_nonneg a (show b≠0 by omega)
 have h2:=Int.emod_lt_of_pos a hb
 obtain⟨h3,h4⟩:=hb2
 exact⟨vO,vO⟩
theorem abk(a b:Int)(hb2:I64 b)(hb:0<b)(h:a.tmod b<0):wrap64 (a.tmod b+b)=Cal.NU a b:=by
 obtain⟨_,e1⟩:=Cal.Qv a b hb h
 rw [Cal.NU,if_neg vO,e1,IntWalk.wrap64_in _ (abX a b hb hb2)]
theorem aaZ(a b:Int)(hb2:I64 b)(hb:0<b)(h:0<=a.tmod b):a.tmod b=Cal.NU a b:=by
 obtain⟨_,e1⟩:=Cal.Mv a b hb h
 rw [Cal.NU,if_neg vO,e1]
theorem abj(a b:Int)(h:b<=0):0=Cal.Oc a b:=by rw [Cal.Oc,if_pos h]
theorem abv(a b:Int)(h:b<=0):0=Cal.NU a b:=by rw [Cal.NU,if_pos h]
theorem Vf(b:Int)(h:b<=0):1=Cal.Q7 b:=by rw [Cal.Q7,if_pos h]
theorem GA(b:Int)(h:0<b):0=Cal.Q7 b:=by rw [Cal.Q7,if_neg vO]
theorem qM{n:Int}(h1: -9223372036854775808<=n)(h2:n<=9223372036854775807):Cal.fits n=true:=by simp [Cal.fits,h1,h2]
theorem GN{n:Int}(h:n< -9223372036854775808∨9223372036854775807<n):Cal.fits n=false:=by
 rw [Bool.eq_false_iff];intro h';simp only [Cal.fits,Bool.and_eq_true,decide_eq_true_eq]at h';omega
theorem Xo(a b:Int)(h1: -9223372036854775808<=a+b)(h2:a+b<=9223372036854775807):a+b=Cal.H8 a b:=by rw [Cal.H8,if_pos (qM h1 h2)]
theorem U0(a b:Int)(h1: -9223372036854775808<=a+b)(h2:a+b<=9223372036854775807):0=Cal.Ji a b:=by rw [Cal.Ji,if_pos (qM h1 h2)]
theorem abd(a b:Int)(h:a+b< -9223372036854775808∨9223372036854775807<a+b):0=Cal.H8 a b:=by rw [Cal.H8,if_neg (by rw [GN h];decide)]
theorem Zg(a b:Int)(h:a+b< -9223372036854775808∨9223372036854775807<a+b):6=Cal.Ji a b:=by rw [Cal.Ji,if_neg (by rw [GN h];decide)]
theorem VQ(a b:Int)(w:World)(ha:I64 a)(hb:I64 b):
  vC 126 #[a,b] w (.tuple #[Cal.Oc a b,Cal.Q7 b]):=by
 go_enter (vF Tryz.func126),Tryz.ntmps126
 go_wp2
 all_goals go_ret2
 ·exact⟨bM (abj _ _ ‹_›) (Vf _ ‹_›),rfl⟩
 ·exact⟨bM (abo _ _ ha ‹_› ‹_›) (GA _ ‹_›),rfl⟩
 ·exact⟨bM (abH _ _ ha ‹_› ‹_›) (GA _ ‹_›),rfl⟩
theorem Wu(a b:Int)(w:World)(ha:I64 a)(hb:I64 b):
  vC 127 #[a,b] w (.tuple #[Cal.NU a b,Cal.Q7 b]):=by
 go_enter (vF Tryz.func127),Tryz.ntmps127
 go_wp2
 all_goals go_ret2
 ·exact⟨bM (abv _ _ ‹_›) (Vf _ ‹_›),rfl⟩
 ·exact⟨bM (abk _ _ hb ‹_› ‹_›) (GA _ ‹_›),rfl⟩
 ·exact⟨bM (aaZ _ _ hb ‹_› ‹_›) (GA _ ‹_›),rfl⟩
theorem Pk(x y:Int)(hx:0<=x)(hy:0<=y)(w:World):
  (callFunc 193 #[.int .u64 x,.int .u64 y,.int .u64 0]).run Tryo.prog w= .ok (.value (.tuple #[.int .u64 ((x+y) % 18446744073709551616),.int .u64 ((x+y) / 18446744073709551616)])) w:=by
 have h:=run_add64 (P:=Tryo.prog) x y 0 hx hy vO vO w
 rw [show x+y+0=x+y by omega]at h
 rw [run_callFunc_extern (vF Tryz.func193) vK vK vK (e:=add64Entry) vK,h]
 rfl
theorem Cz(a b:Int):wrap64 ((IntKind.u64.wrap a+IntKind.u64.wrap b) % 18446744073709551616)=wrap64 (a+b):=by
 rw [IntKind.wrap_u64,IntKind.wrap_u64]
 unfold wrap64
 omega
theorem XH(a b:Int)(ha:I64 a)(hb:I64 b)(h1:a<0↔b<0)(h2:(!decide (wrap64 ((IntKind.u64.wrap a+IntKind.u64.wrap b) % 18446744073709551616)<0)==decide (b<0))=true):
  a+b< -9223372036854775808∨9223372036854775807<a+b:=by
 obtain⟨ha1,ha2⟩:=ha
 obtain⟨hb1,hb2⟩:=hb
 rw [Cz]at h2
 unfold wrap64 at h2
 by_cases c1:(a+b+9223372036854775808) % 18446744073709551616-9223372036854775808<0 <;> by_cases c2:b<0 <;> simp [c1,c2]at h2 <;> omega
theorem YA(a b:Int)(ha:I64 a)(hb:I64 b)(h1:a<0↔b<0)(h2:(!decide (wrap64 ((IntKind.u64.wrap a+IntKind.u64.wrap b) % 18446744073709551616)<0)==decide (b<0))=false):
  -9223372036854775808<=a+b/\a+b<=9223372036854775807:=by
 obtain⟨ha1,ha2⟩:=ha
 obtain⟨hb1,hb2⟩:=hb
 rw [Cz]at h2
 unfold wrap64 at h2
 by_cases c1:(a+b+9223372036854775808) % 18446744073709551616-9223372036854775808<0 <;> by_cases c2:b<0 <;> simp [c1,c2]at h2 <;> omega
theorem Eo(a b:Int)(w:World)(ha:I64 a)(hb:I64 b):
  vC 168 #[a,b] w (.tuple #[Cal.H8 a b,Cal.Ji a b]):=by
 obtain⟨ha1,ha2⟩:=ha
 obtain⟨hb1,hb2⟩:=hb
 go_enter (vF Tryz.func168),Tryz.ntmps168
 have k1:0<=IntKind.u64.wrap a:=by rw [IntKind.wrap_u64];omega
 have k2:0<=IntKind.u64.wrap b:=by rw [IntKind.wrap_u64];omega
 go_wp2_with (simp only [Pk _ _ k1 k2])
 all_goals go_ret2
 ·have h:=XH a b ⟨ha1,ha2⟩ ⟨hb1,hb2⟩ ‹_› ‹_›
  exact⟨bM (abd _ _ h) (Zg _ _ h),rfl⟩
 ·have h:=YA a b ⟨ha1,ha2⟩ ⟨hb1,hb2⟩ ‹_› ‹_›
  exact⟨bM (by rw [Cz,IntWalk.wrap64_in _ h];exact Xo _ _ h.1 h.2) (U0 _ _ h.1 h.2),rfl⟩
 ·have h':¬(a<0↔b<0):=tQ
  have h: -9223372036854775808<=a+b/\a+b<=9223372036854775807:=vO
  exact⟨bM (by rw [Cz,IntWalk.wrap64_in _ h];exact Xo _ _ h.1 h.2) (U0 _ _ h.1 h.2),rfl⟩
theorem aaH{a b:Int}(h:a=b):Ending.returned (.int .u64 a)= .returned (.int .u64 b):=by rw [h]
theorem Ii(a:Int)(w:World)(ha:I64 a):
  vC 192 #[a] w (.int .u64 ((a.natAbs:Nat):Int)):=by
 obtain⟨ha1,ha2⟩:=ha
 go_enter (vF Tryz.func192),Tryz.ntmps192
 go_wp2
 all_goals go_ret
 ·have h:a<0:=tQ
  exact⟨aaH (by rw [IntKind.wrap_u64,IntKind.wrap_u64];omega),rfl⟩
 ·have h:0<=a:=tQ
  exact⟨aaH vO,rfl⟩
theorem Dt(a b:Int)(h:Cal.fits (a*b)=false):0=Cal.KC a b/\6=Cal.Kl a b:=by
 rw [Cal.KC,Cal.Kl,h];exact⟨rfl,rfl⟩
theorem pX(a b:Int)(h:Cal.fits (a*b)=true):a*b=Cal.KC a b/\0=Cal.Kl a b:=by
 rw [Cal.KC,Cal.Kl,h];exact⟨rfl,rfl⟩
end Go.Proofs.YtljbnicolhhicaaGreatDoor
namespace Go.Proofs.YtljbnicolhhicaaGreatDoor
open Go.ChangeShapes Go.WideShapes Go.ChangeAt Go.RowKit
theorem Vt(a b:Int)(h:a<0↔b<0):a*b=((a.natAbs*b.natAbs:Nat):Int):=by
 rw [Int.natCast_mul]
 by_cases c:a<0
 ·rw [show((a.natAbs:Nat):Int)= -a by omega,show((b.natAbs:Nat):Int)= -b by omega,Int.neg_mul_neg]
 ·rw [show((a.natAbs:Nat):Int)=a by omega,show((b.natAbs:Nat):Int)=b by omega]
theorem Uf(a b:Int)(h:¬(a<0↔b<0)):a*b= -((a.natAbs*b.natAbs:Nat):Int):=by
 rw [Int.natCast_mul]
 by_cases c:a<0
 ·rw [show((a.natAbs:Nat):Int)= -a by omega,show((b.natAbs:Nat):Int)=b by omega,Int.neg_mul,Int.neg_neg]
 ·rw [show((a.natAbs:Nat):Int)=a by omega,show((b.natAbs:Nat):Int)= -b by omega,Int.mul_neg,Int.neg_neg]
theorem U7(m hi lo:Int)(hm:m=hi*18446744073709551616+lo)(l0:0<=lo)(l1:lo<18446744073709551616)(h0:0<=hi)(h:hi≠0∨wrap64 lo<0):Cal.fits m=false:=by
 unfold wrap64 at h
 exact GN vO
theorem QY(m hi lo:Int)(hm:m=hi*18446744073709551616+lo)(l0:0<=lo)(l1:lo<18446744073709551616)(h:hi=0)(h2:0<=wrap64 lo):Cal.fits m=true/\wrap64 lo=m:=by
 unfold wrap64 at h2⊢
 exact⟨qM vO vO,vO⟩
theorem P5(m hi lo:Int)(hm:m= -(hi*18446744073709551616+lo))(l0:0<=lo)(l1:lo<18446744073709551616)(h0:0<=hi)(h:hi≠0∨0<wrap64 (IntKind.u64.wrap (-lo))):Cal.fits m=false:=by
 rw [IntKind.wrap_u64]at h
 unfold wrap64 at h
 exact GN vO
theorem Md(m hi lo:Int)(hm:m= -(hi*18446744073709551616+lo))(l0:0<=lo)(l1:lo<18446744073709551616)(h:hi=0)(h2:wrap64 (IntKind.u64.wrap (-lo))<=0):Cal.fits m=true/\wrap64 (IntKind.u64.wrap (-lo))=m:=by
 rw [IntKind.wrap_u64]at h2⊢
 unfold wrap64 at h2⊢
 exact⟨qM vO vO,vO⟩
theorem PI:(∀(a b x y hi lo:Int)(w:World)(a0:a<0)(b0:b<0)(hab:Hid (a*b=hi*18446744073709551616+lo))(l0:0<=lo)(l1:lo<18446744073709551616)(h0:0<=hi)
  (SA:Hid (∀w:World,vC 192 #[a] w (.int .u64 x)))
  (SB:Hid (∀w:World,vC 192 #[b] w (.int .u64 y)))
  (HM:Hid (∀w:World,vC 191 #[.int .u64 x,.int .u64 y] w (.tuple #[.int .u64 hi,.int .u64 lo]))),vC 167 #[a,b] w (.tuple #[Cal.KC a b,Cal.Kl a b]))/\(∀(a b x y hi lo:Int)(w:World)(a0:0<=a)(b0:0<=b)(hab:Hid (a*b=hi*18446744073709551616+lo))(l0:0<=lo)(l1:lo<18446744073709551616)(h0:0<=hi)
  (SA:Hid (∀w:World,vC 192 #[a] w (.int .u64 x)))
  (SB:Hid (∀w:World,vC 192 #[b] w (.int .u64 y)))
  (HM:Hid (∀w:World,vC 191 #[.int .u64 x,.int .u64 y] w (.tuple #[.int .u64 hi,.int .u64 lo]))),vC 167 #[a,b] w (.tuple #[Cal.KC a b,Cal.Kl a b])):=by
 refine⟨@fun a b x y hi lo w a0 b0 hab l0 l1 h0 SA SB HM=>(fun(k90:Nat)=> ?_) 0,@fun a b x y hi lo w a0 b0 hab l0 l1 h0 SA SB HM=> ?_⟩
 all_goals(
 first|(have _:=k90;have da:decide (a<0)=true:=by simp;omega)|(have da:decide (a<0)=false:=by simp;omega)
 first|(have _:=k90;have db:decide (b<0)=true:=by simp;omega)|(have db:decide (b<0)=false:=by simp;omega)
 by_cases c1:hi=0
 ·have c1':(hi !=0)=false:=by rw [c1];rfl
  by_cases c2:wrap64 lo=0
  ·have k:=QY _ hi lo hab.out l0 l1 c1 vO
   have c2':(wrap64 lo !=0)=false:=by rw [c2];rfl
   have H:=Lib.hid (pX a b k.1)
   have K:=Lib.hid k.2
   have C1:=Lib.hid c1
   have C2:=Lib.hid c2
   clear k c1 c2
   go_enter (vF Tryz.func167),Tryz.ntmps167
   go_wp2_with fail
   refine vW (SA.out _) ?_
   go_wp2_with fail
   refine vW (SB.out _) ?_
   go_wp2_with fail
   refine vW (HM.out _) ?_
   go_wp2_with fail
   go_ret2
   first|exact⟨bM (K.out.trans H.out.1) H.out.2,rfl⟩|exact⟨bM (C2.out.symm.trans (K.out.trans H.out.1)) H.out.2,rfl⟩
  have c2':(wrap64 lo !=0)=true:=by rw [bne_iff_ne];exact c2
  by_cases c3:wrap64 lo<0
  ·have c3':decide (wrap64 lo<0)=true:=by rw [decide_eq_true_eq];exact c3
   have H:=Lib.hid (Dt a b (U7 _ hi lo hab.out l0 l1 h0 (.inr vO)))
   have C1:=Lib.hid c1
   have C2:=Lib.hid c2
   have C3:=Lib.hid c3
   clear c1 c2 c3
   go_enter (vF Tryz.func167),Tryz.ntmps167
   go_wp2_with fail
   refine vW (SA.out _) ?_
   go_wp2_with fail
   refine vW (SB.out _) ?_
   go_wp2_with fail
   refine vW (HM.out _) ?_
   go_wp2_with fail
   go_ret2
   exact⟨bM H.out.1 H.out.2,rfl⟩
  ·have c3':decide (wrap64 lo<0)=false:=by rw [decide_eq_false_iff_not];exact c3
   have k:=QY _ hi lo hab.out l0 l1 c1 vO
   have H:=Lib.hid (pX a b k.1)
   have K:=Lib.hid k.2
   have C1:=Lib.hid c1
   have C2:=Lib.hid c2
   have C3:=Lib.hid c3
   clear k c1 c2 c3
   go_enter (vF Tryz.func167),Tryz.ntmps167
   go_wp2_with fail
   refine vW (SA.out _) ?_
   go_wp2_with fail
   refine vW (SB.out _) ?_
   go_wp2_with fail
   refine vW (HM.out _) ?_
   go_wp2_with fail
   go_ret2
   first|exact⟨bM (K.out.trans H.out.1) H.out.2,rfl⟩|exact⟨bM (C2.out.symm.trans (K.out.trans H.out.1)) H.out.2,rfl⟩
 ·have c1':(hi !=0)=true:=by rw [bne_iff_ne];exact c1
  have H:=Lib.hid (Dt a b (U7 _ hi lo hab.out l0 l1 h0 (.inl c1)))
  have C1:=Lib.hid c1
  clear c1
  go_enter (vF Tryz.func167),Tryz.ntmps167
  go_wp2_with fail
  refine vW (SA.out _) ?_
  go_wp2_with fail
  refine vW (SB.out _) ?_
  go_wp2_with fail
  refine vW (HM.out _) ?_
  go_wp2_with fail
  go_ret2
  exact⟨bM H.out.1 H.out.2,rfl⟩
 )
def ab8:=PI.1
def aa1:=PI.2
theorem Rn:(∀(a b x y hi lo:Int)(w:World)(a0:a<0)(b0:0<=b)(hab:Hid (a*b= -(hi*18446744073709551616+lo)))(l0:0<=lo)(l1:lo<18446744073709551616)(h0:0<=hi)
  (SA:Hid (∀w:World,vC 192 #[a] w (.int .u64 x)))
  (SB:Hid (∀w:World,vC 192 #[b] w (.int .u64 y)))
  (HM:Hid (∀w:World,vC 191 #[.int .u64 x,.int .u64 y] w (.tuple #[.int .u64 hi,.int .u64 lo]))),vC 167 #[a,b] w (.tuple #[Cal.KC a b,Cal.Kl a b]))/\(∀(a b x y hi lo:Int)(w:World)(a0:0<=a)(b0:b<0)(hab:Hid (a*b= -(hi*18446744073709551616+lo)))(l0:0<=lo)(l1:lo<18446744073709551616)(h0:0<=hi)
  (SA:Hid (∀w:World,vC 192 #[a] w (.int .u64 x)))
  (SB:Hid (∀w:World,vC 192 #[b] w (.int .u64 y)))
  (HM:Hid (∀w:World,vC 191 #[.int .u64 x,.int .u64 y] w (.tuple #[.int .u64 hi,.int .u64 lo]))),vC 167 #[a,b] w (.tuple #[Cal.KC a b,Cal.Kl a b])):=by
 refine⟨@fun a b x y hi lo w a0 b0 hab l0 l1 h0 SA SB HM=>(fun(k90:Nat)=> ?_) 0,@fun a b x y hi lo w a0 b0 hab l0 l1 h0 SA SB HM=> ?_⟩
 all_goals(
 first|(have _:=k90;have da:decide (a<0)=true:=by simp;omega)|(have da:decide (a<0)=false:=by simp;omega)
 first|(have _:=k90;have db:decide (b<0)=false:=by simp;omega)|(have db:decide (b<0)=true:=by simp;omega)
 by_cases c1:hi=0
 ·have c1':(hi !=0)=false:=by rw [c1];rfl
  by_cases c2:wrap64 (IntKind.u64.wrap (-lo))=0
  ·have k:=Md _ hi lo hab.out l0 l1 c1 vO
   have c2':(wrap64 (IntKind.u64.wrap (-lo))!=0)=false:=by rw [c2];rfl
   have H:=Lib.hid (pX a b k.1)
   have K:=Lib.hid k.2
   have C1:=Lib.hid c1
   have C2:=Lib.hid c2
   clear k c1 c2
   go_enter (vF Tryz.func167),Tryz.ntmps167
   go_wp2_with fail
   refine vW (SA.out _) ?_
   go_wp2_with fail
   refine vW (SB.out _) ?_
   go_wp2_with fail
   refine vW (HM.out _) ?_
   go_wp2_with fail
   go_ret2
   first|exact⟨bM (K.out.trans H.out.1) H.out.2,rfl⟩|exact⟨bM (C2.out.symm.trans (K.out.trans H.out.1)) H.out.2,rfl⟩
  have c2':(wrap64 (IntKind.u64.wrap (-lo))!=0)=true:=by rw [bne_iff_ne];exact c2
  by_cases c3:wrap64 (IntKind.u64.wrap (-lo))<0
  ·have c3':decide (wrap64 (IntKind.u64.wrap (-lo))<0)=true:=by rw [decide_eq_true_eq];exact c3
   have k:=Md _ hi lo hab.out l0 l1 c1 vO
   have H:=Lib.hid (pX a b k.1)
   have K:=Lib.hid k.2
   have C1:=Lib.hid c1
   have C2:=Lib.hid c2
   have C3:=Lib.hid c3
   clear k c1 c2 c3
   go_enter (vF Tryz.func167),Tryz.ntmps167
   go_wp2_with fail
   refine vW (SA.out _) ?_
   go_wp2_with fail
   refine vW (SB.out _) ?_
   go_wp2_with fail
   refine vW (HM.out _) ?_
   go_wp2_with fail
   go_ret2
   first|exact⟨bM (K.out.trans H.out.1) H.out.2,rfl⟩|exact⟨bM (C2.out.symm.trans (K.out.trans H.out.1)) H.out.2,rfl⟩
  ·have c3':decide (wrap64 (IntKind.u64.wrap (-lo))<0)=false:=by rw [decide_eq_false_iff_not];exact c3
   have H:=Lib.hid (Dt a b (P5 _ hi lo hab.out l0 l1 h0 (.inr vO)))
   have C1:=Lib.hid c1
   have C2:=Lib.hid c2
   have C3:=Lib.hid c3
   clear c1 c2 c3
   go_enter (vF Tryz.func167),Tryz.ntmps167
   go_wp2_with fail
   refine vW (SA.out _) ?_
   go_wp2_with fail
   refine vW (SB.out _) ?_
   go_wp2_with fail
   refine vW (HM.out _) ?_
   go_wp2_with fail
   go_ret2
   exact⟨bM H.out.1 H.out.2,rfl⟩
 ·have c1':(hi !=0)=true:=by rw [bne_iff_ne];exact c1
  have H:=Lib.hid (Dt a b (P5 _ hi lo hab.out l0 l1 h0 (.inl c1)))
  have C1:=Lib.hid c1
  clear c1
  go_enter (vF Tryz.func167),Tryz.ntmps167
  go_wp2_with fail
  refine vW (SA.out _) ?_
  go_wp2_with fail
  refine vW (SB.out _) ?_
  go_wp2_with fail
  refine vW (HM.out _) ?_
  go_wp2_with fail
  go_ret2
  exact⟨bM H.out.1 H.out.2,rfl⟩
 )
def abZ:=Rn.1
def aa2:=Rn.2
theorem Dr(a b:Int)(w:World)(ha:I64 a)(hb:I64 b):
  vC 167 #[a,b] w (.tuple #[Cal.KC a b,Cal.Kl a b]):=by
 have hm:∀w:World,Calls Tryo.prog 191 #[.int .u64 (a.natAbs:Int),.int .u64 (b.natAbs:Int)] w fun e w'=>
   e= .returned (.tuple #[.int .u64 ((a.natAbs*b.natAbs / 18446744073709551616:Nat):Int),.int .u64 ((a.natAbs*b.natAbs % 18446744073709551616:Nat):Int)])/\w=w':=fun w=>
  (bits_Mul64 a.natAbs b.natAbs (by obtain⟨h1,h2⟩:=ha;omega) (by obtain⟨h1,h2⟩:=hb;omega) w).mono fun _ _ h=>⟨h.1,h.2.symm⟩
 have sa:=fun w=>Ii a w ha
 have sb:=fun w=>Ii b w hb
 have e1:=Vt a b
 have e2:=Uf a b
 generalize a.natAbs*b.natAbs=n at*
 by_cases a0:a<0 <;> by_cases b0:b<0
 ·exact ab8 a b _ _ _ _ w a0 b0 (Lib.hid (by rw [e1 vO];omega)) vO vO vO (Lib.hid sa) (Lib.hid sb) (Lib.hid hm)
 ·exact abZ a b _ _ _ _ w a0 vO (Lib.hid (by rw [e2 vO];omega)) vO vO vO (Lib.hid sa) (Lib.hid sb) (Lib.hid hm)
 ·exact aa2 a b _ _ _ _ w vO b0 (Lib.hid (by rw [e2 vO];omega)) vO vO vO (Lib.hid sa) (Lib.hid sb) (Lib.hid hm)
 ·exact aa1 a b _ _ _ _ w vO vO (Lib.hid (by rw [e1 vO];omega)) vO vO vO (Lib.hid sa) (Lib.hid sb) (Lib.hid hm)
end Go.Proofs.YtljbnicolhhicaaGreatDoor
namespace Go.Proofs.YtljbnicolhhicaaGreatDoor
open Go.ChangeShapes Go.WideShapes Go.ChangeAt Go.RowKit
theorem kQ(a b:Int)(w:World)(ha:I64 a)(hb:I64 b)(h:Cal.fits (a*b)=true):
  vC 167 #[a,b] w (.tuple #[.int .i64 (a*b),(0:Int)]):=by
 have:=Dr a b w ha hb
 rwa [←(pX a b h).1,←(pX a b h).2]at this
theorem CV(a b:Int)(w:World)(ha:I64 a)(hb:I64 b)(h:Cal.fits (a*b)=false):
  vC 167 #[a,b] w (.tuple #[(0:Int),(6:Int)]):=by
 have:=Dr a b w ha hb
 rwa [←(Dt a b h).1,←(Dt a b h).2]at this
theorem Gw(a b:Int)(h:Cal.fits (a+b)=true):Cal.H8 a b=a+b/\Cal.Ji a b=0:=by rw [Cal.H8,Cal.Ji,h];exact⟨rfl,rfl⟩
theorem Vd(a b:Int)(h:Cal.fits (a+b)=false):Cal.H8 a b=0/\Cal.Ji a b=6:=by rw [Cal.H8,Cal.Ji,h];exact⟨rfl,rfl⟩
theorem Pe(a b:Int)(w:World)(ha:I64 a)(hb:I64 b)(h:Cal.fits (a+b)=true):
  vC 168 #[a,b] w (.tuple #[.int .i64 (a+b),(0:Int)]):=by
 have:=Eo a b w ha hb
 rwa [(Gw a b h).1,(Gw a b h).2]at this
theorem Nh(a b:Int)(w:World)(ha:I64 a)(hb:I64 b)(h:Cal.fits (a+b)=false):
  vC 168 #[a,b] w (.tuple #[(0:Int),(6:Int)]):=by
 have:=Eo a b w ha hb
 rwa [(Vd a b h).1,(Vd a b h).2]at this
theorem BS(a b:Int)(h:0<b):Cal.Oc a b=a / b/\Cal.NU a b=a % b/\Cal.Q7 b=0:=by
 rw [Cal.Oc,Cal.NU,Cal.Q7,if_neg vO,if_neg vO,if_neg vO];exact⟨rfl,rfl,rfl⟩
theorem mD(a b:Int)(w:World)(ha:I64 a)(hb:I64 b)(h:0<b):
  vC 126 #[a,b] w (.tuple #[.int .i64 (a / b),(0:Int)]):=by
 have:=VQ a b w ha hb
 rwa [(BS a b h).1,(BS a b h).2.2]at this
theorem jR(a b:Int)(w:World)(ha:I64 a)(hb:I64 b)(h:0<b):
  vC 127 #[a,b] w (.tuple #[.int .i64 (a % b),(0:Int)]):=by
 have:=Wu a b w ha hb
 rwa [(BS a b h).2.1,(BS a b h).2.2]at this
end Go.Proofs.YtljbnicolhhicaaGreatDoor
namespace Go.Proofs.YtljbnicolhhicaaGreatDoor
open Go.ChangeShapes Go.WideShapes Go.ChangeAt Go.RowKit
theorem aL{W w1:World}(hb:Below W.1.size W w1):(∀b o,b<W.1.size->w1.cell? ⟨b,o,none⟩=W.cell? ⟨b,o,none⟩)/\(∀b o,b<W.1.size->w1.frozen? ⟨b,o,none⟩=W.frozen? ⟨b,o,none⟩):=
 ⟨fun b o h=>hb.cell (p:=⟨b,o,none⟩) h,fun b o h=>hb.frozen (p:=⟨b,o,none⟩) h⟩
theorem vX{P:Program}{f:Nat}{a:Array Value}{W:World}{v:Value}{R:Ending->World->Prop}(h:Calls P f a W fun e w'=>e= .returned v/\Below W.heap.size W w')(k:∀w1,Below W.heap.size W w1->W.heap.size<=w1.heap.size->(∀b o,b<W.heap.size->w1.cell? ⟨b,o,none⟩=W.cell? ⟨b,o,none⟩)->(∀b o,b<W.heap.size->w1.frozen? ⟨b,o,none⟩=W.frozen? ⟨b,o,none⟩)->R (.returned v) w1):Calls P f a W R:=h.mono (by rintro e w1 ⟨rfl,hb⟩;exact k w1 hb hb.size (aL hb).1 (aL hb).2)
theorem QS(n:Int)(w:World)(hn:I64 n):
  vB 138 #[n] w (.agg #[.int .i64 (n / 25920),.int .i64 (n % 25920)]):=by
 go_enter (vF Tryz.func138),Tryz.ntmps138
 go_wp2_with fail
 refine vW (mD n 25920 _ hn ⟨vO,vO⟩ vO) ?_
 go_wp2_with fail
 refine vW (jR n 25920 _ hn ⟨vO,vO⟩ vO) ?_
 go_wp2_with fail
 refine bodyPost_ret (v:= .agg #[.int .i64 (n / 25920),.int .i64 (n % 25920)]) (by simp [results,Tryz.results138,go_sem]) rfl ⟨rfl, ?_⟩
 exact((Below.refl _ _).alloc (Nat.le_refl _) _)
theorem zm{n:Int}(h:Cal.fits n=true):I64 n:=by
 simp only [Cal.fits,Bool.and_eq_true,decide_eq_true_eq]at h
 exact h
theorem Q9(d h p:Int)(w:World)(hd:I64 d)(hh:I64 h)(hp:I64 p):
  vC 137 #[d,h,p] w (.tuple #[Cal.I8 d h p,Cal.Io d h p]):=by
 by_cases c1:Cal.fits (d*25920)=true
 ·by_cases c2:Cal.fits (h*1080)=true
  ·by_cases c3:Cal.fits (d*25920+h*1080)=true
   ·have i1:=zm c1
    have i2:=zm c2
    have i3:=zm c3
    have HS:=Lib.hid (Cal.Ij d h p c1 c2 c3)
    have HA:=Lib.hid (fun w=>Eo (d*25920+h*1080) p w i3 hp)
    have e1:wrap64 (d*25920)=d*25920:=IntWalk.wrap64_in _ i1
    clear e1
    go_enter (vF Tryz.func137),Tryz.ntmps137
    go_wp2_with fail
    refine vW (kQ d 25920 _ hd ⟨vO,vO⟩ c1) ?_
    go_wp2_with fail
    refine vW (kQ h 1080 _ hh ⟨vO,vO⟩ c2) ?_
    go_wp2_with fail
    refine vW (Pe (d*25920) (h*1080) _ i1 i2 c3) ?_
    go_wp2_with fail
    refine vW (HA.out _) ?_
    go_wp2_with fail
    go_ret2
    exact⟨bM HS.out.1.symm HS.out.2.symm,rfl⟩
   ·have c3:Cal.fits (d*25920+h*1080)=false:=by simpa using c3
    have i1:=zm c1
    have i2:=zm c2
    have HS:=Lib.hid (Cal.GR d h p (by rw [c3];simp))
    go_enter (vF Tryz.func137),Tryz.ntmps137
    go_wp2_with fail
    refine vW (kQ d 25920 _ hd ⟨vO,vO⟩ c1) ?_
    go_wp2_with fail
    refine vW (kQ h 1080 _ hh ⟨vO,vO⟩ c2) ?_
    go_wp2_with fail
    refine vW (Nh (d*25920) (h*1080) _ i1 i2 c3) ?_
    go_wp2_with fail
    go_ret2
    exact⟨bM HS.out.1.symm HS.out.2.symm,rfl⟩
  ·have c2:Cal.fits (h*1080)=false:=by simpa using c2
   have HS:=Lib.hid (Cal.GR d h p (by rw [c2];simp))
   go_enter (vF Tryz.func137),Tryz.ntmps137
   go_wp2_with fail
   refine vW (kQ d 25920 _ hd ⟨vO,vO⟩ c1) ?_
   go_wp2_with fail
   refine vW (CV h 1080 _ hh ⟨vO,vO⟩ c2) ?_
   go_wp2_with fail
   go_ret2
   exact⟨bM HS.out.1.symm HS.out.2.symm,rfl⟩
 ·have c1:Cal.fits (d*25920)=false:=by simpa using c1
  have HS:=Lib.hid (Cal.GR d h p (by rw [c1];simp))
  go_enter (vF Tryz.func137),Tryz.ntmps137
  go_wp2_with fail
  refine vW (CV d 25920 _ hd ⟨vO,vO⟩ c1) ?_
  go_wp2_with fail
  go_ret2
  exact⟨bM HS.out.1.symm HS.out.2.symm,rfl⟩
theorem Si(n:Int)(w:World)(hn:I64 n):
  vC 136 #[n] w (.tuple #[Cal.KC n 765433,Cal.Kl n 765433]):=by
 go_enter (vF Tryz.func136),Tryz.ntmps136
 go_wp2_with fail
 refine vW (Dr n 765433 _ hn ⟨vO,vO⟩) ?_
 go_wp2_with fail
 go_ret2
 exact⟨rfl,rfl⟩
end Go.Proofs.YtljbnicolhhicaaGreatDoor
namespace Go.Proofs.YtljbnicolhhicaaGreatDoor
open Go.ChangeShapes Go.WideShapes Go.ChangeAt Go.RowKit
theorem bt{a b c:World}(h:Below a.1.size a b)(k:Below b.1.size b c):Below a.1.size a c:=h.trans (k.mono h.size)
theorem ba(w:World)(o:Obj):Below w.1.size w (w.alloc o):=(Below.refl _ _).alloc (Nat.le_refl _) _
theorem baa{a b:World}(h:Below a.1.size a b)(o:Obj):Below a.1.size a (b.alloc o):=h.alloc h.size _
theorem bs{a b:World}(h:Below a.1.size a b){p:Addr}(hp:a.1.size<=p.block)(u:Value):Below a.1.size a (b.setCell p u):=h.setCell hp u
end Go.Proofs.YtljbnicolhhicaaGreatDoor
namespace Go.Proofs.YtljbnicolhhicaaGreatDoor
open Go.ChangeShapes Go.WideShapes Go.ChangeAt Go.RowKit
theorem fO(y:Int)(h0:0<=y)(h1:y<=10001):Cal.D7 y=true:=by simp [Cal.D7,h0,h1]
theorem mg(y:Int)(h:y<0∨10001<y):Cal.D7 y=false:=by
 rw [Bool.eq_false_iff];intro h';simp only [Cal.D7,Bool.and_eq_true,decide_eq_true_eq]at h';omega
theorem kU(y:Int)(w:World):
  vC 85 #[y] w (.bool (Cal.D7 y)):=by
 rcases(show y<0∨(0<=y/\y<=10001)∨(0<=y/\10001<y) by omega)with c|⟨c,c'⟩|⟨c,c'⟩
 ·have HS:=Lib.hid (mg y vO)
  go_enter (vF Tryz.func85),Tryz.ntmps85
  go_wp2
  go_ret
  first|exact⟨Dl HS.out.symm,rfl⟩|exact⟨Dl ((decide_eq_false vO).trans HS.out.symm),rfl⟩|exact⟨Dl ((decide_eq_true vO).trans HS.out.symm),rfl⟩
 ·have HS:=Lib.hid (fO y c c')
  go_enter (vF Tryz.func85),Tryz.ntmps85
  go_wp2
  go_ret
  first|exact⟨Dl HS.out.symm,rfl⟩|exact⟨Dl ((decide_eq_false vO).trans HS.out.symm),rfl⟩|exact⟨Dl ((decide_eq_true vO).trans HS.out.symm),rfl⟩
 ·have HS:=Lib.hid (mg y vO)
  go_enter (vF Tryz.func85),Tryz.ntmps85
  go_wp2
  go_ret
  first|exact⟨Dl HS.out.symm,rfl⟩|exact⟨Dl ((decide_eq_false vO).trans HS.out.symm),rfl⟩|exact⟨Dl ((decide_eq_true vO).trans HS.out.symm),rfl⟩
theorem Fj(a b:Int)(w:World)(ha:I64 a)(hb:I64 b)(h:0<b):
  vC 86 #[a,b] w (.tuple #[.int .i64 (a / b),.int .i64 (a % b)]):=by
 have HD:=Lib.hid (fun w=>mD a b w ha hb h)
 have HM:=Lib.hid (fun w=>jR a b w ha hb h)
 go_enter (vF Tryz.func86),Tryz.ntmps86
 go_wp2_with fail
 refine vW (HD.out _) ?_
 go_wp2_with fail
 refine vW (HM.out _) ?_
 go_wp2_with fail
 go_ret2
 exact⟨rfl,rfl⟩
theorem Ja(y:Int)(w:World):
  vC 43 #[y] w (.tuple #[Cal.Cc y,Cal.fF y]):=by
 by_cases c:0<=y/\y<=10001
 ·obtain⟨c1,c2⟩:=c
  have h:=fO y c1 c2
  have HS:=Lib.hid (show Cal.Cc y=decide ((7*y+1) % 19<7)/\Cal.fF y=0 by rw [Cal.Cc,Cal.fF,h];exact⟨rfl,rfl⟩)
  go_enter (vF Tryz.func43),Tryz.ntmps43
  go_wp2_with fail
  refine vW (kU y _) ?_
  go_wp2_with fail
  refine vW (Fj (7*y+1) 19 _ ⟨vO,vO⟩ ⟨vO,vO⟩ vO) ?_
  go_wp2_with fail
  go_ret2
  exact⟨XC HS.out.1.symm HS.out.2.symm,rfl⟩
 ·have h:=mg y vO
  have HS:=Lib.hid (show Cal.Cc y=false/\Cal.fF y=2 by rw [Cal.Cc,Cal.fF,h];exact⟨rfl,rfl⟩)
  go_enter (vF Tryz.func43),Tryz.ntmps43
  go_wp2_with fail
  refine vW (kU y _) ?_
  go_wp2_with fail
  go_ret2
  exact⟨XC HS.out.1.symm HS.out.2.symm,rfl⟩
theorem Uy(y:Int)(h0:0<=y)(h1:y<=10001):Cal.Cc y=Cal.leap y/\Cal.fF y=0:=by rw [Cal.Cc,Cal.fF,fO y h0 h1];exact⟨rfl,rfl⟩
theorem UL(y:Int)(h:y<0∨10001<y):Cal.Cc y=false/\Cal.fF y=2:=by rw [Cal.Cc,Cal.fF,mg y h];exact⟨rfl,rfl⟩
theorem aN(y:Int)(w:World)(h0:0<=y)(h1:y<=10001):
  vC 43 #[y] w (.tuple #[Cal.leap y,(0:Int)]):=by
 have:=Ja y w
 rwa [(Uy y h0 h1).1,(Uy y h0 h1).2]at this
theorem qp(y:Int)(w:World)(h:y<0∨10001<y):
  vC 43 #[y] w (.tuple #[false,(2:Int)]):=by
 have:=Ja y w
 rwa [(UL y h).1,(UL y h).2]at this
theorem TT(y:Int)(h0:0<=y)(h1:y<=10001)(h:Cal.leap y=true):Cal.pG y=13/\Cal.fF y=0:=by
 rw [Cal.pG,Cal.months,Cal.fF,fO y h0 h1,h];exact⟨rfl,rfl⟩
theorem MS(y:Int)(h0:0<=y)(h1:y<=10001)(h:Cal.leap y=false):Cal.pG y=12/\Cal.fF y=0:=by
 rw [Cal.pG,Cal.months,Cal.fF,fO y h0 h1,h];exact⟨rfl,rfl⟩
theorem Dn(y:Int)(h:y<0∨10001<y):Cal.pG y=0/\Cal.fF y=2:=by rw [Cal.pG,Cal.fF,mg y h];exact⟨rfl,rfl⟩
theorem Pp(y:Int)(w:World):
  vC 95 #[y] w (.tuple #[Cal.pG y,Cal.fF y]):=by
 by_cases c:0<=y/\y<=10001
 ·obtain⟨c1,c2⟩:=c
  have hr:=fO y c1 c2
  cases h:Cal.leap y
  ·have HS:=Lib.hid (MS y c1 c2 h)
   go_enter (vF Tryz.func95),Tryz.ntmps95
   go_wp2_with fail
   refine vW (aN y _ c1 c2) ?_
   go_wp2_with fail
   go_ret2
   exact⟨bM HS.out.1.symm HS.out.2.symm,rfl⟩
  ·have HS:=Lib.hid (TT y c1 c2 h)
   go_enter (vF Tryz.func95),Tryz.ntmps95
   go_wp2_with fail
   refine vW (aN y _ c1 c2) ?_
   go_wp2_with fail
   go_ret2
   exact⟨bM HS.out.1.symm HS.out.2.symm,rfl⟩
 ·have hr:=mg y vO
  have HS:=Lib.hid (Dn y vO)
  go_enter (vF Tryz.func95),Tryz.ntmps95
  go_wp2_with fail
  refine vW (qp y _ vO) ?_
  go_wp2_with fail
  go_ret2
  exact⟨bM HS.out.1.symm HS.out.2.symm,rfl⟩
theorem DJ(y:Int)(h0:0<=y)(h1:y<=10001):Cal.Di y=Cal.before y/\Cal.fF y=0:=by rw [Cal.Di,Cal.fF,fO y h0 h1];exact⟨rfl,rfl⟩
theorem VK(y:Int)(h:y<0∨10001<y):Cal.Di y=0/\Cal.fF y=2:=by rw [Cal.Di,Cal.fF,mg y h];exact⟨rfl,rfl⟩
theorem MJ(y:Int)(w:World):
  vC 96 #[y] w (.tuple #[Cal.Di y,Cal.fF y]):=by
 by_cases c:0<=y/\y<=10001
 ·obtain⟨c1,c2⟩:=c
  have hr:=fO y c1 c2
  have hs:=DJ y c1 c2
  rw [show Cal.before y=(235*y-235+1) / 19 by unfold Cal.before;congr 1;omega]at hs
  have HS:=Lib.hid hs
  clear hs
  go_enter (vF Tryz.func96),Tryz.ntmps96
  go_wp2_with fail
  refine vW (kU y _) ?_
  go_wp2_with fail
  refine vW (Fj (235*y-235+1) 19 _ ⟨vO,vO⟩ ⟨vO,vO⟩ vO) ?_
  go_wp2_with fail
  go_ret2
  exact⟨bM HS.out.1.symm HS.out.2.symm,rfl⟩
 ·have hr:=mg y vO
  have HS:=Lib.hid (VK y vO)
  go_enter (vF Tryz.func96),Tryz.ntmps96
  go_wp2_with fail
  refine vW (kU y _) ?_
  go_wp2_with fail
  go_ret2
  exact⟨bM HS.out.1.symm HS.out.2.symm,rfl⟩
theorem yB(y:Int)(w:World)(h0:0<=y)(h1:y<=10001):
  vC 95 #[y] w (.tuple #[Cal.months y,(0:Int)]):=by
 have:=Pp y w
 rwa [Cal.pG,Cal.fF,fO y h0 h1,if_pos rfl,if_pos rfl]at this
theorem SG(y:Int)(w:World)(h:y<0∨10001<y):
  vC 95 #[y] w (.tuple #[(0:Int),(2:Int)]):=by
 have:=Pp y w
 rwa [(Dn y h).1,(Dn y h).2]at this
theorem uL(y:Int)(w:World)(h0:0<=y)(h1:y<=10001):
  vC 96 #[y] w (.tuple #[Cal.before y,(0:Int)]):=by
 have:=MJ y w
 rwa [(DJ y h0 h1).1,(DJ y h0 h1).2]at this
end Go.Proofs.YtljbnicolhhicaaGreatDoor
namespace Go.Proofs.YtljbnicolhhicaaGreatDoor
open Go.ChangeShapes Go.WideShapes Go.ChangeAt Go.RowKit
theorem jd(d:Int)(w:World)(hd:I64 d):
  vC 90 #[d] w (.int .i64 (d % 7)):=by
 go_enter (vF Tryz.func90),Tryz.ntmps90
 go_wp2_with fail
 refine vW (jR d 7 _ hd ⟨vO,vO⟩ vO) ?_
 go_wp2_with fail
 go_ret
 exact⟨rfl,rfl⟩
theorem CJ(n:Int)(h1: -200000<=n)(h2:n<=200000):Cal.QT n=Cal.dw n/\Cal.Sr n=Cal.dh n/\Cal.Pj n=0:=by
 have h:Cal.AY n=true:=by simp [Cal.AY,h1,h2]
 rw [Cal.QT,Cal.Sr,Cal.Pj,h];exact⟨rfl,rfl,rfl⟩
theorem UY(n:Int)(h:n< -200000∨200000<n):Cal.QT n=0/\Cal.Sr n=0/\Cal.Pj n=2:=by
 have h:Cal.AY n=false:=by
  rw [Bool.eq_false_iff];intro h';simp only [Cal.AY,Bool.and_eq_true,decide_eq_true_eq]at h';omega
 rw [Cal.QT,Cal.Sr,Cal.Pj,h];exact⟨rfl,rfl,rfl⟩
theorem Jj(n:Int)(w:World)(h1: -200000<=n)(h2:n<=200000):
  vC 136 #[n] w (.tuple #[.int .i64 (n*765433),(0:Int)]):=by
 have:=Si n w ⟨vO,vO⟩
 have hf:Cal.fits (n*765433)=true:=qM vO vO
 rwa [←(pX _ _ hf).1,←(pX _ _ hf).2]at this
theorem En(n:Int)(w:World)(h1: -200000<=n)(h2:n<=200000):
  vC 137 #[(-1373427:Int),(5:Int),.int .i64 (204+n*765433)] w (.tuple #[.int .i64 (5604+765433*n-35599227840),(0:Int)]):=by
 have:=Q9 (-1373427) 5 (204+n*765433) w ⟨vO,vO⟩ ⟨vO,vO⟩ ⟨vO,vO⟩
 have f4:Cal.fits (-1373427*25920+5*1080+(204+n*765433))=true:=qM vO vO
 rw [(Cal.Ij (-1373427) 5 (204+n*765433) vD vD vD).1,(Cal.Ij (-1373427) 5 (204+n*765433) vD vD vD).2,(Gw _ _ f4).1,(Gw _ _ f4).2]at this
 rwa [show -1373427*25920+5*1080+(204+n*765433)=5604+765433*n-35599227840 by omega]at this
theorem Du(n:Int)(w:World)(h1: -200000<=n)(h2:n<=200000):
  vB 138 #[.int .i64 (5604+765433*n-35599227840)] w (.agg #[Cal.dw n,Cal.dh n]):=by
 have:=QS (5604+765433*n-35599227840) w ⟨vO,vO⟩
 rwa [show(5604+765433*n-35599227840) / 25920=Cal.dw n by unfold Cal.dw;omega,show(5604+765433*n-35599227840) % 25920=Cal.dh n by unfold Cal.dh;omega]at this
theorem S9(n:Int)(w:World):
  vB 97 #[n] w (.tuple #[.agg #[Cal.QT n,Cal.Sr n],Cal.Pj n]):=by
 rcases(show n< -200000∨(-200000<=n/\n<=200000)∨(-200000<=n/\200000<n) by omega)with c|⟨c1,c2⟩|⟨c1,c⟩
 ·have HS:=UY n vO
  rw [HS.1,HS.2.1,HS.2.2]
  clear HS
  go_enter (vF Tryz.func97),Tryz.ntmps97
  go_wp2_with fail
  refine bodyPost_ret (v:= .tuple #[.agg #[(0:Int),(0:Int)],(2:Int)]) (by simp [results,Tryz.results97,go_sem]) rfl ⟨rfl,ba _ _⟩
 ·have HS:=CJ n c1 c2
  rw [HS.1,HS.2.1,HS.2.2]
  clear HS
  go_enter (vF Tryz.func97),Tryz.ntmps97
  go_wp2_with fail
  refine vW (Jj n _ c1 c2) ?_
  go_wp2_with fail
  refine vW (En n _ c1 c2) ?_
  go_wp2_with fail
  refine vX (Du n _ c1 c2) fun w1 hb1 hz1 hc1 hf1=>?_
  try simp at hz1
  have hl1w:w.1.size<w1.1.size:=vO
  have hm1w:w.1.size<=w1.1.size:=vO
  have g1x0:w1.cell? ⟨w.1.size,0,none⟩=some (.int .i64 0):=(hc1 _ _ (by simp;try omega)).trans (by first|assumption|simp [go_sem]|simp [go_sem, *])
  have g1x1:w1.cell? ⟨w.1.size,1,none⟩=some (.int .i64 0):=(hc1 _ _ (by simp;try omega)).trans (by first|assumption|simp [go_sem]|simp [go_sem, *])
  go_wp2_with fail
  refine bodyPost_ret (v:= .tuple #[.agg #[Cal.dw n,Cal.dh n],(0:Int)]) (by simp [results,Tryz.results97,go_sem,g1x0,g1x1]) rfl ⟨rfl, ?_⟩
  exact bs (bs (bt (ba _ _) hb1) (Nat.le_refl _) _) (Nat.le_refl _) _
 ·have HS:=UY n vO
  rw [HS.1,HS.2.1,HS.2.2]
  clear HS
  go_enter (vF Tryz.func97),Tryz.ntmps97
  go_wp2_with fail
  refine bodyPost_ret (v:= .tuple #[.agg #[(0:Int),(0:Int)],(2:Int)]) (by simp [results,Tryz.results97,go_sem]) rfl ⟨rfl,ba _ _⟩
theorem Ih(n:Int)(h1: -200000<=n)(h2:n<=200000): -7300000<=Cal.dw n/\Cal.dw n<=4600000:=by unfold Cal.dw;omega
theorem QV(n:Int):0<=Cal.dh n/\Cal.dh n<25920:=by unfold Cal.dh;omega
theorem Dz(y:Int):12<=Cal.months y/\Cal.months y<=13:=by unfold Cal.months;split <;> omega
theorem lT(y:Int)(h0:0<=y)(h1:y<=10001): -13<=Cal.before y/\Cal.before y<=123700:=by unfold Cal.before;omega
theorem UF(y m:Int)(h:y<0∨10001<y):Cal.ofD y m=0/\Cal.ofP y m=0/\Cal.ofE y m=2:=by
 rw [Cal.ofD,Cal.ofP,Cal.ofE,mg y h];exact⟨rfl,rfl,rfl⟩
theorem O9(y m:Int)(h0:0<=y)(h1:y<=10001)(m1:1<=m)(m2:m<=Cal.months y):Cal.ofD y m=Cal.dw (Cal.before y+m-1)/\Cal.ofP y m=Cal.dh (Cal.before y+m-1)/\Cal.ofE y m=0:=by
 have h:Cal.TI y m=true:=by simp [Cal.TI,m1,m2]
 rw [Cal.ofD,Cal.ofP,Cal.ofE,fO y h0 h1,h];exact⟨rfl,rfl,rfl⟩
theorem QZ(y m:Int)(h0:0<=y)(h1:y<=10001)(h:m<1∨Cal.months y<m):Cal.ofD y m=0/\Cal.ofP y m=0/\Cal.ofE y m=3:=by
 have h:Cal.TI y m=false:=by
  rw [Bool.eq_false_iff];intro h';simp only [Cal.TI,Bool.and_eq_true,decide_eq_true_eq]at h';omega
 rw [Cal.ofD,Cal.ofP,Cal.ofE,fO y h0 h1,h];exact⟨rfl,rfl,rfl⟩
theorem Kv(n:Int)(w:World)(h1: -200000<=n)(h2:n<=200000):
  vB 97 #[n] w (.tuple #[.agg #[Cal.dw n,Cal.dh n],(0:Int)]):=by
 have:=S9 n w
 rwa [(CJ n h1 h2).1,(CJ n h1 h2).2.1,(CJ n h1 h2).2.2]at this
theorem Sk(y m:Int)(w:World)(hm:I64 m):
  vB 49 #[y,m] w (.tuple #[.agg #[Cal.ofD y m,Cal.ofP y m],Cal.ofE y m]):=by
 by_cases c:0<=y/\y<=10001
 ·obtain⟨c1,c2⟩:=c
  obtain⟨b1,b2⟩:=Dz y
  obtain⟨b3,b4⟩:=lT y c1 c2
  rcases(show m<1∨(1<=m/\m<=Cal.months y)∨(1<=m/\Cal.months y<m) by omega)with c|⟨m1,m2⟩|⟨m1,c⟩
  ·have HS:=QZ y m c1 c2 (.inl c)
   rw [HS.1,HS.2.1,HS.2.2]
   clear HS
   go_enter (vF Tryz.func49),Tryz.ntmps49
   go_wp2_with fail
   refine vW (yB y _ c1 c2) ?_
   go_wp2_with fail
   refine bodyPost_ret (v:= .tuple #[.agg #[(0:Int),(0:Int)],(3:Int)]) (by simp [results,Tryz.results49,go_sem]) rfl ⟨rfl,ba _ _⟩
  ·have HS:=O9 y m c1 c2 m1 m2
   rw [HS.1,HS.2.1,HS.2.2]
   clear HS
   obtain⟨m3,m4⟩:=hm
   go_enter (vF Tryz.func49),Tryz.ntmps49
   go_wp2_with fail
   refine vW (yB y _ c1 c2) ?_
   go_wp2_with fail
   refine vW (uL y _ c1 c2) ?_
   go_wp2_with fail
   refine vX (Kv (Cal.before y+m-1) _ vO vO) fun w1 hb1 hz1 hc1 hf1=>?_
   try simp at hz1
   have hl1w:w.1.size<w1.1.size:=vO
   have hm1w:w.1.size<=w1.1.size:=vO
   have g1x0:w1.cell? ⟨w.1.size,0,none⟩=some (.int .i64 0):=(hc1 _ _ (by simp;try omega)).trans (by first|assumption|simp [go_sem]|simp [go_sem, *])
   have g1x1:w1.cell? ⟨w.1.size,1,none⟩=some (.int .i64 0):=(hc1 _ _ (by simp;try omega)).trans (by first|assumption|simp [go_sem]|simp [go_sem, *])
   go_wp2_with fail
   refine bodyPost_ret (v:= .tuple #[.agg #[Cal.dw (Cal.before y+m-1),Cal.dh (Cal.before y+m-1)],(0:Int)]) (by simp [results,Tryz.results49,go_sem,g1x0,g1x1]) rfl ⟨rfl, ?_⟩
   exact bs (bs (bt (ba _ _) hb1) (Nat.le_refl _) _) (Nat.le_refl _) _
  ·have HS:=QZ y m c1 c2 (.inr c)
   rw [HS.1,HS.2.1,HS.2.2]
   clear HS
   go_enter (vF Tryz.func49),Tryz.ntmps49
   go_wp2_with fail
   refine vW (yB y _ c1 c2) ?_
   go_wp2_with fail
   refine bodyPost_ret (v:= .tuple #[.agg #[(0:Int),(0:Int)],(3:Int)]) (by simp [results,Tryz.results49,go_sem]) rfl ⟨rfl,ba _ _⟩
 ·have HS:=UF y m vO
  rw [HS.1,HS.2.1,HS.2.2]
  clear HS
  go_enter (vF Tryz.func49),Tryz.ntmps49
  go_wp2_with fail
  refine vW (SG y _ vO) ?_
  go_wp2_with fail
  refine bodyPost_ret (v:= .tuple #[.agg #[(0:Int),(0:Int)],(2:Int)]) (by simp [results,Tryz.results49,go_sem]) rfl ⟨rfl,ba _ _⟩
end Go.Proofs.YtljbnicolhhicaaGreatDoor
namespace Go.Proofs.YtljbnicolhhicaaGreatDoor
open Go.ChangeShapes Go.WideShapes Go.ChangeAt Go.RowKit
theorem RD(y m n:Int)(w:World)(h0:0<=y)(h1:y<=10001)(m1:1<=m)(m2:m<=Cal.months y)(hn:Cal.before y+m-1=n):
  vB 49 #[y,m] w (.tuple #[.agg #[Cal.dw n,Cal.dh n],(0:Int)]):=by
 have:=Sk y m w (by obtain⟨b1,b2⟩:=Dz y;exact⟨vO,vO⟩)
 rwa [(O9 y m h0 h1 m1 m2).1,(O9 y m h0 h1 m1 m2).2.1,(O9 y m h0 h1 m1 m2).2.2,hn]at this
theorem bdn{a b:World}(h:Below a.1.size a b)(n:Nat):Below a.1.size a (b.drewN n):=h.trans ⟨rfl,rfl,rfl,Nat.le_refl _,fun _ _=>rfl⟩
end Go.Proofs.YtljbnicolhhicaaGreatDoor
namespace Go.Proofs.YtljbnicolhhicaaGreatDoor
open Go.ChangeShapes Go.WideShapes Go.ChangeAt Go.RowKit
theorem Qm(d p:Int):Cal.delay d p true true=if 19440<=p∨(d % 7=1/\16789<=p)then(if(d % 7+1) % 7=0∨(d % 7+1) % 7=3∨(d % 7+1) % 7=5 then 2 else 1)else(if d % 7=0∨d % 7=3∨d % 7=5 then 1 else 0):=by
 unfold Cal.delay Cal.AZ
 simp only [Bool.not_true,Bool.false_and,Bool.true_and,Bool.false_eq_true,if_false,Bool.and_eq_true,beq_iff_eq,decide_eq_true_eq]
 repeat' split
 all_goals omega
theorem SE(d p:Int):Cal.delay d p true false=if 19440<=p then(if(d % 7+1) % 7=0∨(d % 7+1) % 7=3∨(d % 7+1) % 7=5 then 2 else 1)else(if d % 7=0∨d % 7=3∨d % 7=5 then 1 else 0):=by
 unfold Cal.delay Cal.AZ
 simp only [Bool.not_true,Bool.false_and,Bool.false_eq_true,if_false]
 repeat' split
 all_goals omega
theorem QJ(d p:Int):Cal.delay d p false true=if 19440<=p∨(d % 7=2/\9924<=p)∨(d % 7=1/\16789<=p)then(if(d % 7+1) % 7=0∨(d % 7+1) % 7=3∨(d % 7+1) % 7=5 then 2 else 1)else(if d % 7=0∨d % 7=3∨d % 7=5 then 1 else 0):=by
 unfold Cal.delay Cal.AZ
 simp only [Bool.not_false,Bool.true_and,Bool.and_eq_true,beq_iff_eq,decide_eq_true_eq]
 repeat' split
 all_goals omega
theorem Sj(d p:Int):Cal.delay d p false false=if 19440<=p∨(d % 7=2/\9924<=p)then(if(d % 7+1) % 7=0∨(d % 7+1) % 7=3∨(d % 7+1) % 7=5 then 2 else 1)else(if d % 7=0∨d % 7=3∨d % 7=5 then 1 else 0):=by
 unfold Cal.delay Cal.AZ
 simp only [Bool.not_false,Bool.true_and,Bool.false_and,Bool.false_eq_true,if_false,Bool.and_eq_true,beq_iff_eq,decide_eq_true_eq]
 repeat' split
 all_goals omega
theorem iR:(∀(d p:Int)(w:World)(hd:I64 d)(hp:I64 p),vB 50 #[.agg #[d,p],true,true] w (.int .i64 (Cal.delay d p true true)))/\(∀(d p:Int)(w:World)(hd:I64 d)(hp:I64 p),vB 50 #[.agg #[d,p],true,false] w (.int .i64 (Cal.delay d p true false)))/\(∀(d p:Int)(w:World)(hd:I64 d)(hp:I64 p),vB 50 #[.agg #[d,p],false,true] w (.int .i64 (Cal.delay d p false true)))/\(∀(d p:Int)(w:World)(hd:I64 d)(hp:I64 p),vB 50 #[.agg #[d,p],false,false] w (.int .i64 (Cal.delay d p false false))):=by
 refine⟨@fun d p w hd hp=>(fun(k90:Nat)=> ?_) 0,@fun d p w hd hp=>(fun(k91:Nat)=> ?_) 0,@fun d p w hd hp=>(fun(k92:Nat)=> ?_) 0,@fun d p w hd hp=> ?_⟩
 all_goals(
 have HW:=Lib.hid (fun w=>jd d w hd)
 have k0:0<=d % 7:=vO
 have k1:d % 7<7:=vO
 go_enter (vF Tryz.func50),Tryz.ntmps50
 go_wp2_with fail
 refine vW (HW.out _) ?_
 go_wp2_with fail
 all_goals(refine(jd _ _ ⟨vO,vO⟩).mono ?_;rintro e w' ⟨rfl,rfl⟩;go_wp2_with fail)
 all_goals go_ret
 all_goals refine⟨YR ?_,ba _ _⟩
 all_goals go_light
 first|(have _:=k90;all_goals rw [Qm])|(have _:=k91;all_goals rw [SE])|(have _:=k92;all_goals rw [QJ])|(all_goals rw [Sj])
 all_goals(repeat' split)
 all_goals(try simp only [beq_iff_eq,beq_eq_false_iff_ne,ne_eq]at*)
 all_goals omega
 )
def EA:=iR.1
def Eb:=iR.2.1
def EH:=iR.2.2.1
def Dq:=iR.2.2.2
theorem KN(d p:Int)(lp af:Bool)(w:World)(hd:I64 d)(hp:I64 p):
  vB 50 #[.agg #[d,p],lp,af] w (.int .i64 (Cal.delay d p lp af)):=by
 cases lp <;> cases af
 ·exact Dq d p w hd hp
 ·exact EH d p w hd hp
 ·exact Eb d p w hd hp
 ·exact EA d p w hd hp
end Go.Proofs.YtljbnicolhhicaaGreatDoor
namespace Go.Proofs.YtljbnicolhhicaaGreatDoor
open Go.ChangeShapes Go.WideShapes Go.ChangeAt Go.RowKit
theorem bdw{a b:World}(h:Below a.1.size a b):Below a.1.size a b.drew:=h.drew
theorem OT(y:Int)(w:World)(h0:0<=y)(h1:y<=10001):
  vB 49 #[y,(1:Int)] w (.tuple #[.agg #[Cal.dw (Cal.before y),Cal.dh (Cal.before y)],(0:Int)]):=
 RD y 1 (Cal.before y) w h0 h1 vO (by obtain⟨b1,b2⟩:=Dz y;omega) vO
theorem Lp(y:Int)(w:World)(h:y<0∨10001<y):
  vB 49 #[y,(1:Int)] w (.tuple #[.agg #[(0:Int),(0:Int)],(2:Int)]):=by
 have:=Sk y 1 w ⟨vO,vO⟩
 rwa [(UF y 1 h).1,(UF y 1 h).2.1,(UF y 1 h).2.2]at this
theorem Ef(y:Int)(w:World)(h0:0<=y)(h1:y<=10001):
  Calls Tryo.prog 43 #[.int .i64 (y-1)] w fun e w'=>(∃k:Int,e= .returned (.tuple #[Cal.leap (y-1),k]))/\w=w':=by
 by_cases c:y=0
 ·have:=qp (y-1) w vO
  rw [show Cal.leap (y-1)=false by subst c;decide]
  exact this.mono fun e w' h=>⟨⟨_,h.1⟩,h.2⟩
 ·exact(aN (y-1) w vO vO).mono fun e w' h=>⟨⟨_,h.1⟩,h.2⟩
theorem X0(y:Int)(h0:0<=y)(h1:y<=10001):Cal.oW y=Cal.dw (Cal.before y)+Cal.delay (Cal.dw (Cal.before y)) (Cal.dh (Cal.before y)) (Cal.leap y) (Cal.leap (y-1))/\Cal.fF y=0:=by
 rw [Cal.oW,Cal.fF,fO y h0 h1];exact⟨rfl,rfl⟩
theorem Qj(y:Int)(h:y<0∨10001<y):Cal.oW y=0/\Cal.fF y=2:=by rw [Cal.oW,Cal.fF,mg y h];exact⟨rfl,rfl⟩
theorem QL(d p:Int)(lp af:Bool):0<=Cal.delay d p lp af/\Cal.delay d p lp af<=2:=by
 cases lp <;> cases af
 ·rw [Sj];repeat' split
  all_goals omega
 ·rw [QJ];repeat' split
  all_goals omega
 ·rw [SE];repeat' split
  all_goals omega
 ·rw [Qm];repeat' split
  all_goals omega
theorem AL(y:Int)(w:World)(hy:I64 y):
  vB 26 #[y] w (.tuple #[Cal.oW y,Cal.fF y]):=by
 by_cases c:0<=y/\y<=10001
 ·obtain⟨c1,c2⟩:=c
  have HS:=Lib.hid (X0 y c1 c2)
  obtain⟨b3,b4⟩:=lT y c1 c2
  obtain⟨b5,b6⟩:=Ih (Cal.before y) vO vO
  obtain⟨b7,b8⟩:=QV (Cal.before y)
  obtain⟨b1,b2⟩:=QL (Cal.dw (Cal.before y)) (Cal.dh (Cal.before y)) (Cal.leap y) (Cal.leap (y-1))
  have HD:=Lib.hid (fun w=>KN (Cal.dw (Cal.before y)) (Cal.dh (Cal.before y)) (Cal.leap y) (Cal.leap (y-1)) w ⟨vO,vO⟩ ⟨vO,vO⟩)
  go_enter (vF Tryz.func26),Tryz.ntmps26
  go_wp2_with fail
  refine vX (OT y _ c1 c2) fun w1 hb1 hz1 hc1 hf1=>?_
  try simp at hz1
  go_wp2_with fail
  refine vW (aN y _ c1 c2) ?_
  go_wp2_with fail
  refine(Ef y _ c1 c2).mono ?_
  rintro e w' ⟨⟨kk,rfl⟩,rfl⟩
  go_wp2_with fail
  go_region_held3 (fun x=>x.cell? ⟨w1.1.size,0,none⟩=some (Cal.dw (Cal.before y):vV)/\x.cell? ⟨w1.1.size,1,none⟩=some (Cal.dh (Cal.before y):vV)) (go_keep)
   (first|(go_at_call 50;refine(HD.out _).mono ?_;rintro e w2 ⟨rfl,hb2⟩;obtain⟨hc2,hf2⟩:=aL hb2))
  all_goals go_wp2_with fail
  all_goals go_ret2
  all_goals exact⟨bM ((IntWalk.i64_in _ ⟨vO,vO⟩).trans HS.out.1.symm) HS.out.2.symm,bt (bdw (baa hb1 _)) hb2⟩
 ·have HS:=Lib.hid (Qj y vO)
  go_enter (vF Tryz.func26),Tryz.ntmps26
  go_wp2_with fail
  refine vX (Lp y _ vO) fun w1 hb1 hz1 hc1 hf1=>?_
  try simp at hz1
  go_wp2_with fail
  go_ret2
  exact⟨bM HS.out.1.symm HS.out.2.symm,baa hb1 _⟩
theorem lV(y:Int)(w:World)(h0:0<=y)(h1:y<=10001):
  vB 26 #[y] w (.tuple #[Cal.first y,(0:Int)]):=by
 have:=AL y w ⟨vO,vO⟩
 rwa [Cal.oW,Cal.fF,fO y h0 h1,if_pos rfl,if_pos rfl]at this
theorem iY(y:Int)(h0:0<=y)(h1:y<=10001): -7300000<=Cal.first y/\Cal.first y<=4600002:=by
 obtain⟨b3,b4⟩:=lT y h0 h1
 obtain⟨b5,b6⟩:=Ih (Cal.before y) vO vO
 obtain⟨b1,b2⟩:=QL (Cal.dw (Cal.before y)) (Cal.dh (Cal.before y)) (Cal.leap y) (Cal.leap (y-1))
 unfold Cal.first
 omega
end Go.Proofs.YtljbnicolhhicaaGreatDoor
