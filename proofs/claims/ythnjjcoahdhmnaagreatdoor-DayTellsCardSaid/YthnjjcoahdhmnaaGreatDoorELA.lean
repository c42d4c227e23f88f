import Derived.Shelf.Bits.Mul64
import Derived.Test.YthnjjcoahdhmnaaGreatDoorEPo
import Derived.WalkKit
import Derived.ProofKit
import Derived.Deep.Light
import Derived.Lib.Hide
import Derived.Below
import Derived.Deep.QuietTactic
import Derived.BigQuiet
import Derived.Deep.RegionHeld3
set_option maxHeartbeats 8000000
set_option maxRecDepth 100000
set_option linter.unusedVariables false
namespace Go.Proofs.YthnjjcoahdhmnaaGreatDoor
namespace Cal
def fits(n:Int):Bool:=decide (-9223372036854775808<=n)&&decide (n<=9223372036854775807)
def Gi(a b:Int):Int:=if fits (a+b)then a+b else 0
def F6(a b:Int):Int:=if fits (a+b)then 0 else 6
def Ig(a b:Int):Int:=if fits (a*b)then a*b else 0
def JB(a b:Int):Int:=if fits (a*b)then 0 else 6
def IJ(a b:Int):Int:=if b<=0 then 0 else a / b
def Pf(b:Int):Int:=if b<=0 then 1 else 0
def IV(a b:Int):Int:=if b<=0 then 0 else a % b
def force{α:Type}(n:Nat)(f:Nat->α):α:=match n with|0=>f 0|k+1=>f (Nat.succ k)
theorem force_eq{α:Type}(n:Nat)(f:Nat->α):force n f=f n:=by cases n <;> rfl
def mR(f:Nat->Bool):Nat->Nat->Bool
 |0,lo=>f lo
 |k+1,lo=>and (mR f k lo) (force (Nat.add lo (Nat.pow 2 k)) (mR f k))
theorem kV(f:Nat->Bool)(k:Nat):∀lo,mR f k lo=true->∀n,lo<=n->n<lo+2 ^ k->f n=true:=by
 induction k with
 | zero => intro lo h n h1 h2;simp at h2;have:n=lo:=by omega
           subst this;exact h
 |succ k ih=>
  intro lo h n h1 h2
  simp only [mR,force_eq]at h
  rw [Bool.and_eq_true]at h
  by_cases hn:n<lo+2 ^ k
  ·exact ih lo h.1 n h1 hn
  ·exact ih (lo+2 ^ k) h.2 n (by omega) (by rw [Nat.pow_succ]at h2;omega)
theorem Pq(a b:Int)(hb:0<b)(h:a.tmod b<0):a.tdiv b-1=a / b/\a.tmod b+b=a % b:=by
 have h1:=Int.tmod_add_mul_tdiv a b
 have h2:=Int.lt_tmod_of_pos a hb
 have h3:=(Int.ediv_emod_unique (a:=a) (r:=a.tmod b+b) (q:=a.tdiv b-1) hb).2 ⟨by rw [Int.mul_sub];omega,by omega,by omega⟩
 exact⟨h3.1.symm,h3.2.symm⟩
theorem Ku(a b:Int)(hb:0<b)(h:0<=a.tmod b):a.tdiv b=a / b/\a.tmod b=a % b:=by
 have h1:=Int.tmod_add_mul_tdiv a b
 have h2:=Int.tmod_lt_of_pos a hb
 have h3:=(Int.ediv_emod_unique (a:=a) (r:=a.tmod b) (q:=a.tdiv b) hb).2 ⟨by omega,h,h2⟩
 exact⟨h3.1.symm,h3.2.symm⟩
def leap(y:Int):Bool:=decide ((7*y+1) % 19<7)
def months(y:Int):Int:=if leap y then 13 else 12
def before(y:Int):Int:=(235*y-234) / 19
def yu(y:Int):Bool:=decide (0<=y)&&decide (y<=10001)
def yO(y:Int):Bool:=yu y&&leap y
def bX(y:Int):Int:=if yu y then 0 else 2
def j3(y:Int):Int:=if yu y then months y else 0
def sH(y:Int):Int:=if yu y then before y else 0
def aW(n:Int):Int:=(5604+765433*n) / 25920-1373427
def aV(n:Int):Int:=(5604+765433*n) % 25920
def yh(n:Int):Bool:=decide (-200000<=n)&&decide (n<=200000)
def JJ(n:Int):Int:=if yh n then 0 else 2
def J8(n:Int):Int:=if yh n then aW n else 0
def JZ(n:Int):Int:=if yh n then aV n else 0
def TR(y m:Int):Bool:=decide (1<=m)&&decide (m<=months y)
def ofE(y m:Int):Int:=if yu y then(if TR y m then 0 else 3)else 2
def ofD(y m:Int):Int:=if yu y&&TR y m then aW (before y+m-1)else 0
def ofP(y m:Int):Int:=if yu y&&TR y m then aV (before y+m-1)else 0
def uW(w p:Int)(leap after:Bool):Int:=
 if 19440<=p then 1 else if(!leap&&(w==2)&&decide (9924<=p))then 1 else if(after&&(w==1)&&decide (16789<=p))then 1 else 0
def delay(d p:Int)(leap after:Bool):Int:=
 let n:=uW (d % 7) p leap after
 if(d % 7+n) % 7=0∨(d % 7+n) % 7=3∨(d % 7+n) % 7=5 then n+1 else n
def first(y:Int):Int:=aW (before y)+delay (aW (before y)) (aV (before y)) (leap y) (leap (y-1))
def kI(y:Int):Int:=if yu y then first y else 0
def fU(m:Int):Int:=29*m+(12084+13753*m) / 25920
def nearly(y:Int):Int:=let d:=fU (before y);if(3*d+3) % 7<3 then d+1 else d
def AQ(y:Int):Bool:=decide (-1<=y)&&decide (y<=10002)
def Qy(y:Int):Int:=if AQ y then 0 else 2
def Py(y:Int):Int:=if AQ y then nearly y else 0
def Mc(y:Int):Int:=
 if nearly (y+1)-nearly y=356 then nearly y+2-1373427 else if nearly y-nearly (y-1)=382 then nearly y+1-1373427 else nearly y-1373427
def lpN(y:Nat):Bool:=Nat.blt (Nat.mod (Nat.add (Nat.mul 7 y) 1) 19) 7
def qj(y:Nat):Nat:=Nat.div (Nat.sub (Nat.mul 235 y) 234) 19
def Bb(w p:Nat)(lp af:Bool):Nat:=cond (Nat.ble 19440 p) 1 (cond (and (not lp) (and (Nat.beq w 2) (Nat.ble 9924 p))) 1 (cond (and af (and (Nat.beq w 1) (Nat.ble 16789 p))) 1 0))
def U4(w:Nat):Bool:=or (Nat.beq w 0) (or (Nat.beq w 3) (Nat.beq w 5))
def qh{α:Type}(y:Nat)(k:Nat->α):α:=
 force (qj y) fun mo=>force (Nat.add 5604 (Nat.mul 765433 mo)) fun mm=>force (Nat.div mm 25920) fun d=>force (Nat.mod mm 25920) fun p=>
 force (Nat.mod (Nat.add d 1) 7) fun w=>force (Bb w p (lpN y) (lpN (Nat.sub y 1))) fun n=>force (Nat.mod (Nat.add w n) 7) fun w2=>
 force (Nat.add d (Nat.add n (cond (U4 w2) 1 0))) k
def E9{α:Type}(y:Nat)(k:Nat->α):α:=
 force (qj y) fun mo=>force (Nat.add (Nat.mul 29 mo) (Nat.div (Nat.add 12084 (Nat.mul 13753 mo)) 25920)) fun d=>
 force (cond (Nat.blt (Nat.mod (Nat.add (Nat.mul 3 d) 3) 7) 3) (Nat.add d 1) d) k
def dL(y:Nat):Nat:=qh y id
def pq(y:Nat):Nat:=E9 y id
theorem J9{α:Type}(y:Nat)(k:Nat->α):qh y k=k (dL y):=by simp only [dL,qh,force_eq,id]
theorem WH{α:Type}(y:Nat)(k:Nat->α):E9 y k=k (pq y):=by simp only [pq,E9,force_eq,id]
def okN(y:Nat):Bool:=
 qh y fun a=>qh (Nat.succ y) fun b=>force (cond (lpN y) (Nat.sub (Nat.sub b a) 30) (Nat.sub b a)) fun n=>force (Nat.mod (Nat.add a 1) 7) fun w=>
 E9 (Nat.pred y) fun n0=>E9 y fun n1=>E9 (Nat.succ y) fun n2=>
 and (or (Nat.beq n 353) (or (Nat.beq n 354) (Nat.beq n 355))) (and (not (U4 w)) (Nat.beq a (cond (Nat.beq (Nat.sub n2 n1) 356) (Nat.add n1 2) (cond (Nat.beq (Nat.sub n1 n0) 382) (Nat.add n1 1) n1))))
theorem okN1:mR okN 13 2=true:=by decide+kernel
theorem okN2:mR okN 11 8194=true:=by decide+kernel
theorem YB(y:Nat)(h0:2<=y)(h1:y<=10001):okN y=true:=by
 by_cases h:y<8194
 ·exact kV _ _ _ okN1 y h0 (by omega)
 ·exact kV _ _ _ okN2 y (by omega) (by omega)
theorem Ru(y:Nat)(h0:2<=y)(h1:y<=10001):
  ((dL (y+1)-dL y-(if lpN y then 30 else 0)=353∨dL (y+1)-dL y-(if lpN y then 30 else 0)=354∨dL (y+1)-dL y-(if lpN y then 30 else 0)=355)/\
   ((dL y+1) % 7≠0/\(dL y+1) % 7≠3/\(dL y+1) % 7≠5))/\
   dL y=if pq (y+1)-pq y=356 then pq y+2 else if pq y-pq (y-1)=382 then pq y+1 else pq y:=by
 have h:=YB y h0 h1
 unfold okN at h
 simp only [J9,WH,force_eq]at h
 rw [Bool.and_eq_true,Bool.and_eq_true]at h
 obtain⟨h1,h2,h3⟩:=h
 refine⟨⟨?_, ?_⟩, ?_⟩
 ·simp only [Bool.or_eq_true,Nat.beq_eq]at h1
  cases hl:lpN y <;> rw [hl]at h1 <;> simpa using h1
 ·simp only [U4,Bool.not_eq_true',Bool.or_eq_false_iff]at h2
  exact⟨Nat.ne_of_beq_eq_false h2.1,Nat.ne_of_beq_eq_false h2.2.1,Nat.ne_of_beq_eq_false h2.2.2⟩
 ·rw [Nat.beq_eq]at h3
  simp only [Bool.cond_eq_ite,Nat.beq_eq]at h3
  exact h3
theorem Qf(a b c m:Nat):(((a+b*m) / c:Nat):Int)=((a:Int)+b*m) / c:=by rw [Int.natCast_ediv,Int.natCast_add,Int.natCast_mul]
theorem Xo(a b c m:Nat):(((a+b*m) % c:Nat):Int)=((a:Int)+b*m) % c:=by rw [Int.natCast_emod,Int.natCast_add,Int.natCast_mul]
theorem J7(a b c m:Nat):(((b*m+a) % c:Nat):Int)=((b:Int)*m+a) % c:=by rw [Int.natCast_emod,Int.natCast_add,Int.natCast_mul]
theorem FE(y:Nat):leap (y:Int)=lpN y:=by
 rw [Bool.eq_iff_iff]
 unfold leap lpN
 rw [decide_eq_true_eq,Nat.blt_eq]
 show(7*(y:Int)+1) % 19<7↔(7*y+1) % 19<7
 have e:(((7*y+1) % 19:Nat):Int)=(7*(y:Int)+1) % 19:=J7 1 7 19 y
 omega
theorem UY(y:Nat)(h:1<=y):before (y:Int)=(qj y:Int):=by
 show(235*(y:Int)-234) / 19=(((235*y-234) / 19:Nat):Int)
 omega
theorem Vb(w p:Nat)(lp af:Bool):uW (w:Int) (p:Int) lp af=(Bb w p lp af:Int):=by
 have e1:Nat.ble 19440 p=decide (19440<=(p:Int)):=by rw [Bool.eq_iff_iff,Nat.ble_eq,decide_eq_true_eq];omega
 have e2:Nat.ble 9924 p=decide (9924<=(p:Int)):=by rw [Bool.eq_iff_iff,Nat.ble_eq,decide_eq_true_eq];omega
 have e3:Nat.ble 16789 p=decide (16789<=(p:Int)):=by rw [Bool.eq_iff_iff,Nat.ble_eq,decide_eq_true_eq];omega
 have e4:Nat.beq w 2=((w:Int)==2):=by rw [Bool.eq_iff_iff,Nat.beq_eq,beq_iff_eq];omega
 have e5:Nat.beq w 1=((w:Int)==1):=by rw [Bool.eq_iff_iff,Nat.beq_eq,beq_iff_eq];omega
 unfold uW Bb
 rw [e1,e2,e3,e4,e5]
 simp only [Bool.cond_eq_ite,decide_eq_true_eq,Bool.and_assoc]
 split
 ·rfl
 ·split
  ·rfl
  ·split <;> rfl
theorem X5(w:Nat):U4 w=decide (w=0∨w=3∨w=5):=by
 rw [Bool.eq_iff_iff]
 unfold U4
 simp only [Bool.or_eq_true,Nat.beq_eq,decide_eq_true_eq]
theorem jP(y:Nat)(h:2<=y):first (y:Int)=(dL y:Int)-1373427:=by
 have hn:dL y=(5604+765433*qj y) / 25920+(Bb (((5604+765433*qj y) / 25920+1) % 7) ((5604+765433*qj y) % 25920) (lpN y) (lpN (y-1))+
   cond (U4 ((((5604+765433*qj y) / 25920+1) % 7+Bb (((5604+765433*qj y) / 25920+1) % 7) ((5604+765433*qj y) % 25920) (lpN y) (lpN (y-1))) % 7)) 1 0):=by
  simp only [dL,qh,force_eq,id]
  rfl
 rw [hn]
 unfold first delay
 rw [UY y (by omega),FE y,show((y:Int)-1)=((y-1:Nat):Int) by omega,FE (y-1)]
 generalize qj y=m
 generalize lpN y=lp
 generalize lpN (y-1)=af
 have hd:aW (m:Int)=(((5604+765433*m) / 25920:Nat):Int)-1373427:=by unfold aW;rw [show(((5604+765433*m) / 25920:Nat):Int)=(5604+765433*(m:Int)) / 25920 from Qf 5604 765433 25920 m]
 have hp:aV (m:Int)=(((5604+765433*m) % 25920:Nat):Int):=by(exact(Xo 5604 765433 25920 m).symm)
 have hw:aW (m:Int) % 7=((((5604+765433*m) / 25920+1) % 7:Nat):Int):=by
  rw [hd]
  generalize (5604+765433*m) / 25920=d
  omega
 simp only [hw,hp,Vb]
 rw [hd]
 generalize (5604+765433*m) % 25920=p
 generalize (5604+765433*m) / 25920=d
 generalize Bb ((d+1) % 7) p lp af=n
 rw [X5,Bool.cond_eq_ite]
 simp only [decide_eq_true_eq]
 split <;> split <;> omega
theorem FH(y:Nat)(h:1<=y):nearly (y:Int)=(pq y:Int):=by
 have hn:pq y=cond (Nat.blt ((3*(29*qj y+(12084+13753*qj y) / 25920)+3) % 7) 3) (29*qj y+(12084+13753*qj y) / 25920+1) (29*qj y+(12084+13753*qj y) / 25920):=by
  simp only [pq,E9,force_eq,id]
  rfl
 rw [hn]
 unfold nearly fU
 rw [UY y h]
 generalize qj y=m
 have e0:(((12084+13753*m) / 25920:Nat):Int)=(12084+13753*(m:Int)) / 25920:=Qf 12084 13753 25920 m
 have e:(29*(m:Int)+(12084+13753*(m:Int)) / 25920)=((29*m+(12084+13753*m) / 25920:Nat):Int):=by
  rw [←e0];omega
 simp only [e]
 generalize 29*m+(12084+13753*m) / 25920=d
 have e2:(((3*d+3) % 7:Nat):Int)=(3*(d:Int)+3) % 7:=J7 3 3 7 d
 simp only [Bool.cond_eq_ite,Nat.blt_eq]
 split <;> split <;> omega
theorem AY(y:Int)(h0:0<=y)(h1:y<=10000):
  first (y+1)-first y-(if leap y then 30 else 0)=353∨first (y+1)-first y-(if leap y then 30 else 0)=354∨first (y+1)-first y-(if leap y then 30 else 0)=355:=by
 by_cases h2:y<2
 ·have:y=0∨y=1:=by omega
  rcases this with rfl|rfl <;> decide+kernel
 ·obtain⟨n,rfl⟩:=Int.eq_ofNat_of_zero_le h0
  have h:=(Ru n (by omega) (by omega)).1.1
  have e:((n:Int)+1)=((n+1:Nat):Int):=by omega
  rw [e,jP n (by omega),jP (n+1) (by omega),FE n]
  cases hl:lpN n <;> rw [hl]at h <;> simp only [Bool.false_eq_true,if_true,if_false]at h⊢ <;> omega
theorem VO(y:Int)(h0:0<=y)(h1:y<=10001):Mc y=first y:=by
 by_cases h2:y<2
 ·have:y=0∨y=1:=by omega
  rcases this with rfl|rfl <;> decide+kernel
 ·obtain⟨n,rfl⟩:=Int.eq_ofNat_of_zero_le h0
  have h:=(Ru n (by omega) (by omega)).2
  have e:((n:Int)+1)=((n+1:Nat):Int):=by omega
  have e':((n:Int)-1)=((n-1:Nat):Int):=by omega
  unfold Mc
  rw [e,e',jP n (by omega),FH n (by omega),FH (n+1) (by omega),FH (n-1) (by omega)]
  split at h
  ·rw [h,if_pos (by omega)];omega
  ·rw [if_neg (by omega)]
   split at h
   ·rw [h,if_pos (by omega)];omega
   ·rw [h,if_neg (by omega)]
end Cal
end Go.Proofs.YthnjjcoahdhmnaaGreatDoor
namespace Go.Proofs.YthnjjcoahdhmnaaGreatDoor
namespace Cal
def Ey(d h p:Int):Bool:=fits (d*25920)&&fits (h*1080)&&fits (d*25920+h*1080)&&fits (d*25920+h*1080+p)
def Gf(d h p:Int):Int:=if Ey d h p then d*25920+h*1080+p else 0
def GU(d h p:Int):Int:=if Ey d h p then 0 else 6
theorem EZ(d h p:Int)(hx:(fits (d*25920)&&fits (h*1080)&&fits (d*25920+h*1080))=false):Gf d h p=0/\GU d h p=6:=by
 unfold Gf GU Ey
 rw [hx]
 exact⟨rfl,rfl⟩
theorem F9(d h p:Int)(h1:fits (d*25920)=true)(h2:fits (h*1080)=true)(h3:fits (d*25920+h*1080)=true):
  Gf d h p=Gi (d*25920+h*1080) p/\GU d h p=F6 (d*25920+h*1080) p:=by
 unfold Gf GU Ey Gi F6
 rw [h1,h2,h3]
 exact⟨rfl,rfl⟩
end Cal
end Go.Proofs.YthnjjcoahdhmnaaGreatDoor
namespace Go.Proofs
open Go.Shelf
namespace YthnjjcoahdhmnaaGreatDoor
def PD:Go.Shelf.Ren:=⟨fun|264=>316|n=>n,fun|53=>237|46=>197|n=>n,fun|n=>n⟩
theorem Y0:Go.Proofs.Lays.n264 Tryo.prog PD:={
 mixed:=by kernel_rfl
 f264:=Tryo.func316.trans (congrArg some (by kernel_rfl))
 t46:=(aI Tryz.underlying197)
 a46:=(aL (Tryo.isAgg 197) Tryz.isAgg197)
 z46:=(aL (Tryo.sizeOf 197) Tryz.sizeOf197)
 v46:=(aL (Tryo.zeroValue 197) Tryz.zeroValue197)
 t53:=(aI Tryz.underlying237)
 a53:=(aL (Tryo.isAgg 237) Tryz.isAgg237)
 z53:=(aL (Tryo.sizeOf 237) Tryz.sizeOf237)
 v53:=(aL (Tryo.zeroValue 237) Tryz.zeroValue237)}
open Go.RowKit Go.Lib in
theorem bits_Mul64(x y:Nat)(hx:x<18446744073709551616)(hy:y<18446744073709551616)(w:World):
  Calls Tryo.prog 316 #[.int .u64 x,.int .u64 y] w fun e w'=>e= .returned (.tuple #[.int .u64 ((x*y / 18446744073709551616:Nat):Int),.int .u64 ((x*y % 18446744073709551616:Nat):Int)])/\w'=w:=Any.bits_Mul64 Y0 x y hx hy w
end YthnjjcoahdhmnaaGreatDoor
end Go.Proofs
namespace Go.Proofs.YthnjjcoahdhmnaaGreatDoor
open Go.ChangeShapes Go.WideShapes Go.ChangeAt Go.RowKit
def I64(a:Int):Prop:= -9223372036854775808<=a/\a<=9223372036854775807
theorem jk{a b:Int}(h:a=b):Ending.returned (.int .i64 a)= .returned (.int .i64 b):=by rw [h]
theorem fT{a b:Bool}(h:a=b):Ending.returned (.bool a)= .returned (.bool b):=by rw [h]
theorem aN{a b c d:Int}(h:a=b)(h':c=d):Ending.returned (.tuple #[.int .i64 a,.int .i64 c])= .returned (.tuple #[.int .i64 b,.int .i64 d]):=by rw [h,h']
theorem Wd{a b:Bool}{c d:Int}(h:a=b)(h':c=d):Ending.returned (.tuple #[.bool a,.int .i64 c])= .returned (.tuple #[.bool b,.int .i64 d]):=by rw [h,h']
theorem Uh(a b:Int)(ha:I64 a)(hb:0<b):I64 (a / b)/\(a.tmod b<0->I64 (a / b+1)):=by
 obtain⟨h1,h2⟩:=ha
 have k1: -9223372036854775808<=a / b:=by
  rw [Int.le_ediv_iff_mul_le hb]
  omega
 have k2:a / b<9223372036854775808:=by
  rw [Int.ediv_lt_iff_lt_mul hb]
  omega
 refine⟨⟨k1,by omega⟩,fun h=> ?_⟩
 have k3:a / b<0:=by
  rw [Int.ediv_lt_iff_lt_mul hb]
  have hn:a<0:=by
   by_cases h0:0<=a
   ·have:=Int.tmod_nonneg (b:=b) h0;omega
   ·omega
  omega
 exact⟨by omega,by omega⟩
theorem V7(a b:Int)(ha:I64 a)(hb:0<b)(h:a.tmod b<0):wrap64 (wrap64 (a.tdiv b)-1)=Cal.IJ a b:=by
 obtain⟨e1,_⟩:=Cal.Pq a b hb h
 obtain⟨d1,d2⟩:=Uh a b ha hb
 have d2:=d2 h
 rw [Cal.IJ,if_neg (by omega),show a.tdiv b=a / b+1 by omega,IntWalk.wrap64_in _ d2,show a / b+1-1=a / b by omega,IntWalk.wrap64_in _ d1]
theorem Xt(a b:Int)(ha:I64 a)(hb:0<b)(h:0<=a.tmod b):wrap64 (a.tdiv b)=Cal.IJ a b:=by
 obtain⟨e1,_⟩:=Cal.Ku a b hb h
 rw [Cal.IJ,if_neg (by omega),e1,IntWalk.wrap64_in _ (Uh a b ha hb).1]
theorem aax(a b:Int)(hb:0<b)(hb2:I64 b):I64 (a % b):=by
 have h1:=Int.emod_nonneg a (show b≠0 by omega)
 have h2:=Int.emod_lt_of_pos a hb
 obtain⟨h3,h4⟩:=hb2
 exact⟨by omega,by omega⟩
theorem WE(a b:Int)(hb2:I64 b)(hb:0<b)(h:a.tmod b<0):wrap64 (a.tmod b+b)=Cal.IV a b:=by
 obtain⟨_,e1⟩:=Cal.Pq a b hb h
 rw [Cal.IV,if_neg (by omega),e1,IntWalk.wrap64_in _ (aax a b hb hb2)]
theorem Xj(a b:Int)(hb2:I64 b)(hb:0<b)(h:0<=a.tmod b):a.tmod b=Cal.IV a b:=by
 obtain⟨_,e1⟩:=Cal.Ku a b hb h
 rw [Cal.IV,if_neg (by omega),e1]
theorem aai(a b:Int)(h:b<=0):0=Cal.IJ a b:=by rw [Cal.IJ,if_pos h]
theorem aap(a b:Int)(h:b<=0):0=Cal.IV a b:=by rw [Cal.IV,if_pos h]
theorem Uj(b:Int)(h:b<=0):1=Cal.Pf b:=by rw [Cal.Pf,if_pos h]
theorem El(b:Int)(h:0<b):0=Cal.Pf b:=by rw [Cal.Pf,if_neg (by omega)]
theorem nR{n:Int}(h1: -9223372036854775808<=n)(h2:n<=9223372036854775807):Cal.fits n=true:=by simp [Cal.fits,h1,h2]
theorem DY{n:Int}(h:n< -9223372036854775808∨9223372036854775807<n):Cal.fits n=false:=by
 rw [Bool.eq_false_iff];intro h';simp only [Cal.fits,Bool.and_eq_true,decide_eq_true_eq]at h';omega
theorem XU(a b:Int)(h1: -9223372036854775808<=a+b)(h2:a+b<=9223372036854775807):a+b=Cal.Gi a b:=by rw [Cal.Gi,if_pos (nR h1 h2)]
theorem UK(a b:Int)(h1: -9223372036854775808<=a+b)(h2:a+b<=9223372036854775807):0=Cal.F6 a b:=by rw [Cal.F6,if_pos (nR h1 h2)]
theorem ZL(a b:Int)(h:a+b< -9223372036854775808∨9223372036854775807<a+b):0=Cal.Gi a b:=by rw [Cal.Gi,if_neg (by rw [DY h];decide)]
theorem YX(a b:Int)(h:a+b< -9223372036854775808∨9223372036854775807<a+b):6=Cal.F6 a b:=by rw [Cal.F6,if_neg (by rw [DY h];decide)]
theorem VG(a b:Int)(w:World)(ha:I64 a)(hb:I64 b):
  Calls Tryo.prog 207 #[.int .i64 a,.int .i64 b] w fun e w'=>e= .returned (.tuple #[.int .i64 (Cal.IJ a b),.int .i64 (Cal.Pf b)])/\w=w':=by
 go_enter Tryo.func207,Tryz.ntmps207
 go_wp2
 all_goals go_ret2
 ·exact⟨aN (aai _ _ ‹_›) (Uj _ ‹_›),rfl⟩
 ·exact⟨aN (V7 _ _ ha ‹_› ‹_›) (El _ ‹_›),rfl⟩
 ·exact⟨aN (Xt _ _ ha ‹_› ‹_›) (El _ ‹_›),rfl⟩
theorem Vh(a b:Int)(w:World)(ha:I64 a)(hb:I64 b):
  Calls Tryo.prog 83 #[.int .i64 a,.int .i64 b] w fun e w'=>e= .returned (.tuple #[.int .i64 (Cal.IV a b),.int .i64 (Cal.Pf b)])/\w=w':=by
 go_enter Tryo.func83,Tryz.ntmps83
 go_wp2
 all_goals go_ret2
 ·exact⟨aN (aap _ _ ‹_›) (Uj _ ‹_›),rfl⟩
 ·exact⟨aN (WE _ _ hb ‹_› ‹_›) (El _ ‹_›),rfl⟩
 ·exact⟨aN (Xj _ _ hb ‹_› ‹_›) (El _ ‹_›),rfl⟩
theorem WM(a b:Int)(w:World)(ha:I64 a)(hb:0<b):
  Calls Tryo.prog 96 #[.int .i64 a,.int .i64 b] w fun e w'=>e= .returned (.int .i64 (Cal.IJ a b))/\w=w':=by
 go_enter Tryo.func96,Tryz.ntmps96
 go_wp2
 all_goals go_ret
 ·exact⟨jk (V7 _ _ ha ‹_› ‹_›),rfl⟩
 ·exact⟨jk (Xt _ _ ha ‹_› ‹_›),rfl⟩
theorem Xq(a b:Int)(w:World)(hb2:I64 b)(hb:0<b):
  Calls Tryo.prog 94 #[.int .i64 a,.int .i64 b] w fun e w'=>e= .returned (.int .i64 (Cal.IV a b))/\w=w':=by
 go_enter Tryo.func94,Tryz.ntmps94
 go_wp2
 all_goals go_ret
 ·exact⟨jk (WE _ _ hb2 ‹_› ‹_›),rfl⟩
 ·exact⟨jk (Xj _ _ hb2 ‹_› ‹_›),rfl⟩
theorem Ki(x y:Int)(hx:0<=x)(hy:0<=y)(w:World):
  (callFunc 318 #[.int .u64 x,.int .u64 y,.int .u64 0]).run Tryo.prog w= .ok (.value (.tuple #[.int .u64 ((x+y) % 18446744073709551616),.int .u64 ((x+y) / 18446744073709551616)])) w:=by
 have h:=run_add64 (P:=Tryo.prog) x y 0 hx hy (by omega) (by omega) w
 rw [show x+y+0=x+y by omega]at h
 rw [run_callFunc_extern Tryo.func318 (by kernel_rfl) (by kernel_rfl) (by kernel_rfl) (e:=add64Entry) (by kernel_rfl),h]
 rfl
theorem yL(a b:Int):wrap64 ((IntKind.u64.wrap a+IntKind.u64.wrap b) % 18446744073709551616)=wrap64 (a+b):=by
 rw [IntKind.wrap_u64,IntKind.wrap_u64]
 unfold wrap64
 omega
theorem XT(a b:Int)(ha:I64 a)(hb:I64 b)(h1:a<0↔b<0)(h2:(!decide (wrap64 ((IntKind.u64.wrap a+IntKind.u64.wrap b) % 18446744073709551616)<0)==decide (b<0))=true):
  a+b< -9223372036854775808∨9223372036854775807<a+b:=by
 obtain⟨ha1,ha2⟩:=ha
 obtain⟨hb1,hb2⟩:=hb
 rw [yL]at h2
 unfold wrap64 at h2
 by_cases c1:(a+b+9223372036854775808) % 18446744073709551616-9223372036854775808<0 <;> by_cases c2:b<0 <;> simp [c1,c2]at h2 <;> omega
theorem WX(a b:Int)(ha:I64 a)(hb:I64 b)(h1:a<0↔b<0)(h2:(!decide (wrap64 ((IntKind.u64.wrap a+IntKind.u64.wrap b) % 18446744073709551616)<0)==decide (b<0))=false):
  -9223372036854775808<=a+b/\a+b<=9223372036854775807:=by
 obtain⟨ha1,ha2⟩:=ha
 obtain⟨hb1,hb2⟩:=hb
 rw [yL]at h2
 unfold wrap64 at h2
 by_cases c1:(a+b+9223372036854775808) % 18446744073709551616-9223372036854775808<0 <;> by_cases c2:b<0 <;> simp [c1,c2]at h2 <;> omega
theorem Ay(a b:Int)(w:World)(ha:I64 a)(hb:I64 b):
  Calls Tryo.prog 307 #[.int .i64 a,.int .i64 b] w fun e w'=>e= .returned (.tuple #[.int .i64 (Cal.Gi a b),.int .i64 (Cal.F6 a b)])/\w=w':=by
 obtain⟨ha1,ha2⟩:=ha
 obtain⟨hb1,hb2⟩:=hb
 go_enter Tryo.func307,Tryz.ntmps307
 have k1:0<=IntKind.u64.wrap a:=by rw [IntKind.wrap_u64];omega
 have k2:0<=IntKind.u64.wrap b:=by rw [IntKind.wrap_u64];omega
 go_wp2_with (simp only [Ki _ _ k1 k2])
 all_goals go_ret2
 ·have h:=XT a b ⟨ha1,ha2⟩ ⟨hb1,hb2⟩ ‹_› ‹_›
  exact⟨aN (ZL _ _ h) (YX _ _ h),rfl⟩
 ·have h:=WX a b ⟨ha1,ha2⟩ ⟨hb1,hb2⟩ ‹_› ‹_›
  exact⟨aN (by rw [yL,IntWalk.wrap64_in _ h];exact XU _ _ h.1 h.2) (UK _ _ h.1 h.2),rfl⟩
 ·have h':¬(a<0↔b<0):=by assumption
  have h: -9223372036854775808<=a+b/\a+b<=9223372036854775807:=by omega
  exact⟨aN (by rw [yL,IntWalk.wrap64_in _ h];exact XU _ _ h.1 h.2) (UK _ _ h.1 h.2),rfl⟩
theorem Zg{a b:Int}(h:a=b):Ending.returned (.int .u64 a)= .returned (.int .u64 b):=by rw [h]
theorem G9(a:Int)(w:World)(ha:I64 a):
  Calls Tryo.prog 317 #[.int .i64 a] w fun e w'=>e= .returned (.int .u64 ((a.natAbs:Nat):Int))/\w=w':=by
 obtain⟨ha1,ha2⟩:=ha
 go_enter Tryo.func317,Tryz.ntmps317
 go_wp2
 all_goals go_ret
 ·have h:a<0:=by assumption
  exact⟨Zg (by rw [IntKind.wrap_u64,IntKind.wrap_u64];omega),rfl⟩
 ·have h:0<=a:=by assumption
  exact⟨Zg (by omega),rfl⟩
theorem nu(a b:Int)(h:Cal.fits (a*b)=false):0=Cal.Ig a b/\6=Cal.JB a b:=by
 rw [Cal.Ig,Cal.JB,h];exact⟨rfl,rfl⟩
theorem iU(a b:Int)(h:Cal.fits (a*b)=true):a*b=Cal.Ig a b/\0=Cal.JB a b:=by
 rw [Cal.Ig,Cal.JB,h];exact⟨rfl,rfl⟩
end Go.Proofs.YthnjjcoahdhmnaaGreatDoor
namespace Go.Proofs.YthnjjcoahdhmnaaGreatDoor
open Go.ChangeShapes Go.WideShapes Go.ChangeAt Go.RowKit
theorem U2(a b:Int)(h:a<0↔b<0):a*b=((a.natAbs*b.natAbs:Nat):Int):=by
 rw [Int.natCast_mul]
 by_cases c:a<0
 ·rw [show((a.natAbs:Nat):Int)= -a by omega,show((b.natAbs:Nat):Int)= -b by omega,Int.neg_mul_neg]
 ·rw [show((a.natAbs:Nat):Int)=a by omega,show((b.natAbs:Nat):Int)=b by omega]
theorem Tn(a b:Int)(h:¬(a<0↔b<0)):a*b= -((a.natAbs*b.natAbs:Nat):Int):=by
 rw [Int.natCast_mul]
 by_cases c:a<0
 ·rw [show((a.natAbs:Nat):Int)= -a by omega,show((b.natAbs:Nat):Int)=b by omega,Int.neg_mul,Int.neg_neg]
 ·rw [show((a.natAbs:Nat):Int)=a by omega,show((b.natAbs:Nat):Int)= -b by omega,Int.mul_neg,Int.neg_neg]
theorem D7(m hi lo:Int)(hm:m=hi*18446744073709551616+lo)(l0:0<=lo)(l1:lo<18446744073709551616)(h0:0<=hi)(h:hi≠0∨wrap64 lo<0):Cal.fits m=false:=by
 unfold wrap64 at h
 exact DY (by omega)
theorem yQ(m hi lo:Int)(hm:m=hi*18446744073709551616+lo)(l0:0<=lo)(l1:lo<18446744073709551616)(h:hi=0)(h2:0<=wrap64 lo):Cal.fits m=true/\wrap64 lo=m:=by
 unfold wrap64 at h2⊢
 exact⟨nR (by omega) (by omega),by omega⟩
theorem zX(m hi lo:Int)(hm:m= -(hi*18446744073709551616+lo))(l0:0<=lo)(l1:lo<18446744073709551616)(h0:0<=hi)(h:hi≠0∨0<wrap64 (IntKind.u64.wrap (-lo))):Cal.fits m=false:=by
 rw [IntKind.wrap_u64]at h
 unfold wrap64 at h
 exact DY (by omega)
theorem qO(m hi lo:Int)(hm:m= -(hi*18446744073709551616+lo))(l0:0<=lo)(l1:lo<18446744073709551616)(h:hi=0)(h2:wrap64 (IntKind.u64.wrap (-lo))<=0):Cal.fits m=true/\wrap64 (IntKind.u64.wrap (-lo))=m:=by
 rw [IntKind.wrap_u64]at h2⊢
 unfold wrap64 at h2⊢
 exact⟨nR (by omega) (by omega),by omega⟩
theorem ZN(a b x y hi lo:Int)(w:World)(a0:a<0)(b0:b<0)(hab:Hid (a*b=hi*18446744073709551616+lo))(l0:0<=lo)(l1:lo<18446744073709551616)(h0:0<=hi)
  (SA:Hid (∀w:World,Calls Tryo.prog 317 #[.int .i64 a] w fun e w'=>e= .returned (.int .u64 x)/\w=w'))
  (SB:Hid (∀w:World,Calls Tryo.prog 317 #[.int .i64 b] w fun e w'=>e= .returned (.int .u64 y)/\w=w'))
  (HM:Hid (∀w:World,Calls Tryo.prog 316 #[.int .u64 x,.int .u64 y] w fun e w'=>e= .returned (.tuple #[.int .u64 hi,.int .u64 lo])/\w=w')):
  Calls Tryo.prog 306 #[.int .i64 a,.int .i64 b] w fun e w'=>e= .returned (.tuple #[.int .i64 (Cal.Ig a b),.int .i64 (Cal.JB a b)])/\w=w':=by
 have da:decide (a<0)=true:=by simp;omega
 have db:decide (b<0)=true:=by simp;omega
 by_cases c1:hi=0
 ·have c1':(hi !=0)=false:=by rw [c1];rfl
  by_cases c2:wrap64 lo=0
  ·have k:=yQ _ hi lo hab.out l0 l1 c1 (by omega)
   have c2':(wrap64 lo !=0)=false:=by rw [c2];rfl
   have H:=Lib.hid (iU a b k.1)
   have K:=Lib.hid k.2
   have C1:=Lib.hid c1
   have C2:=Lib.hid c2
   clear k c1 c2
   go_enter Tryo.func306,Tryz.ntmps306
   go_wp2_with fail
   refine(SA.out _).mono ?_
   rintro e w' ⟨rfl,rfl⟩
   go_wp2_with fail
   refine(SB.out _).mono ?_
   rintro e w' ⟨rfl,rfl⟩
   go_wp2_with fail
   refine(HM.out _).mono ?_
   rintro e w' ⟨rfl,rfl⟩
   go_wp2_with fail
   go_ret2
   first|exact⟨aN (K.out.trans H.out.1) H.out.2,rfl⟩|exact⟨aN (C2.out.symm.trans (K.out.trans H.out.1)) H.out.2,rfl⟩
  have c2':(wrap64 lo !=0)=true:=by rw [bne_iff_ne];exact c2
  by_cases c3:wrap64 lo<0
  ·have c3':decide (wrap64 lo<0)=true:=by rw [decide_eq_true_eq];exact c3
   have H:=Lib.hid (nu a b (D7 _ hi lo hab.out l0 l1 h0 (.inr (by omega))))
   have C1:=Lib.hid c1
   have C2:=Lib.hid c2
   have C3:=Lib.hid c3
   clear c1 c2 c3
   go_enter Tryo.func306,Tryz.ntmps306
   go_wp2_with fail
   refine(SA.out _).mono ?_
   rintro e w' ⟨rfl,rfl⟩
   go_wp2_with fail
   refine(SB.out _).mono ?_
   rintro e w' ⟨rfl,rfl⟩
   go_wp2_with fail
   refine(HM.out _).mono ?_
   rintro e w' ⟨rfl,rfl⟩
   go_wp2_with fail
   go_ret2
   exact⟨aN H.out.1 H.out.2,rfl⟩
  ·have c3':decide (wrap64 lo<0)=false:=by rw [decide_eq_false_iff_not];exact c3
   have k:=yQ _ hi lo hab.out l0 l1 c1 (by omega)
   have H:=Lib.hid (iU a b k.1)
   have K:=Lib.hid k.2
   have C1:=Lib.hid c1
   have C2:=Lib.hid c2
   have C3:=Lib.hid c3
   clear k c1 c2 c3
   go_enter Tryo.func306,Tryz.ntmps306
   go_wp2_with fail
   refine(SA.out _).mono ?_
   rintro e w' ⟨rfl,rfl⟩
   go_wp2_with fail
   refine(SB.out _).mono ?_
   rintro e w' ⟨rfl,rfl⟩
   go_wp2_with fail
   refine(HM.out _).mono ?_
   rintro e w' ⟨rfl,rfl⟩
   go_wp2_with fail
   go_ret2
   first|exact⟨aN (K.out.trans H.out.1) H.out.2,rfl⟩|exact⟨aN (C2.out.symm.trans (K.out.trans H.out.1)) H.out.2,rfl⟩
 ·have c1':(hi !=0)=true:=by rw [bne_iff_ne];exact c1
  have H:=Lib.hid (nu a b (D7 _ hi lo hab.out l0 l1 h0 (.inl c1)))
  have C1:=Lib.hid c1
  clear c1
  go_enter Tryo.func306,Tryz.ntmps306
  go_wp2_with fail
  refine(SA.out _).mono ?_
  rintro e w' ⟨rfl,rfl⟩
  go_wp2_with fail
  refine(SB.out _).mono ?_
  rintro e w' ⟨rfl,rfl⟩
  go_wp2_with fail
  refine(HM.out _).mono ?_
  rintro e w' ⟨rfl,rfl⟩
  go_wp2_with fail
  go_ret2
  exact⟨aN H.out.1 H.out.2,rfl⟩
theorem ZC(a b x y hi lo:Int)(w:World)(a0:0<=a)(b0:0<=b)(hab:Hid (a*b=hi*18446744073709551616+lo))(l0:0<=lo)(l1:lo<18446744073709551616)(h0:0<=hi)
  (SA:Hid (∀w:World,Calls Tryo.prog 317 #[.int .i64 a] w fun e w'=>e= .returned (.int .u64 x)/\w=w'))
  (SB:Hid (∀w:World,Calls Tryo.prog 317 #[.int .i64 b] w fun e w'=>e= .returned (.int .u64 y)/\w=w'))
  (HM:Hid (∀w:World,Calls Tryo.prog 316 #[.int .u64 x,.int .u64 y] w fun e w'=>e= .returned (.tuple #[.int .u64 hi,.int .u64 lo])/\w=w')):
  Calls Tryo.prog 306 #[.int .i64 a,.int .i64 b] w fun e w'=>e= .returned (.tuple #[.int .i64 (Cal.Ig a b),.int .i64 (Cal.JB a b)])/\w=w':=by
 have da:decide (a<0)=false:=by simp;omega
 have db:decide (b<0)=false:=by simp;omega
 by_cases c1:hi=0
 ·have c1':(hi !=0)=false:=by rw [c1];rfl
  by_cases c2:wrap64 lo=0
  ·have k:=yQ _ hi lo hab.out l0 l1 c1 (by omega)
   have c2':(wrap64 lo !=0)=false:=by rw [c2];rfl
   have H:=Lib.hid (iU a b k.1)
   have K:=Lib.hid k.2
   have C1:=Lib.hid c1
   have C2:=Lib.hid c2
   clear k c1 c2
   go_enter Tryo.func306,Tryz.ntmps306
   go_wp2_with fail
   refine(SA.out _).mono ?_
   rintro e w' ⟨rfl,rfl⟩
   go_wp2_with fail
   refine(SB.out _).mono ?_
   rintro e w' ⟨rfl,rfl⟩
   go_wp2_with fail
   refine(HM.out _).mono ?_
   rintro e w' ⟨rfl,rfl⟩
   go_wp2_with fail
   go_ret2
   first|exact⟨aN (K.out.trans H.out.1) H.out.2,rfl⟩|exact⟨aN (C2.out.symm.trans (K.out.trans H.out.1)) H.out.2,rfl⟩
  have c2':(wrap64 lo !=0)=true:=by rw [bne_iff_ne];exact c2
  by_cases c3:wrap64 lo<0
  ·have c3':decide (wrap64 lo<0)=true:=by rw [decide_eq_true_eq];exact c3
   have H:=Lib.hid (nu a b (D7 _ hi lo hab.out l0 l1 h0 (.inr (by omega))))
   have C1:=Lib.hid c1
   have C2:=Lib.hid c2
   have C3:=Lib.hid c3
   clear c1 c2 c3
   go_enter Tryo.func306,Tryz.ntmps306
   go_wp2_with fail
   refine(SA.out _).mono ?_
   rintro e w' ⟨rfl,rfl⟩
   go_wp2_with fail
   refine(SB.out _).mono ?_
   rintro e w' ⟨rfl,rfl⟩
   go_wp2_with fail
   refine(HM.out _).mono ?_
   rintro e w' ⟨rfl,rfl⟩
   go_wp2_with fail
   go_ret2
   exact⟨aN H.out.1 H.out.2,rfl⟩
  ·have c3':decide (wrap64 lo<0)=false:=by rw [decide_eq_false_iff_not];exact c3
   have k:=yQ _ hi lo hab.out l0 l1 c1 (by omega)
   have H:=Lib.hid (iU a b k.1)
   have K:=Lib.hid k.2
   have C1:=Lib.hid c1
   have C2:=Lib.hid c2
   have C3:=Lib.hid c3
   clear k c1 c2 c3
   go_enter Tryo.func306,Tryz.ntmps306
   go_wp2_with fail
   refine(SA.out _).mono ?_
   rintro e w' ⟨rfl,rfl⟩
   go_wp2_with fail
   refine(SB.out _).mono ?_
   rintro e w' ⟨rfl,rfl⟩
   go_wp2_with fail
   refine(HM.out _).mono ?_
   rintro e w' ⟨rfl,rfl⟩
   go_wp2_with fail
   go_ret2
   first|exact⟨aN (K.out.trans H.out.1) H.out.2,rfl⟩|exact⟨aN (C2.out.symm.trans (K.out.trans H.out.1)) H.out.2,rfl⟩
 ·have c1':(hi !=0)=true:=by rw [bne_iff_ne];exact c1
  have H:=Lib.hid (nu a b (D7 _ hi lo hab.out l0 l1 h0 (.inl c1)))
  have C1:=Lib.hid c1
  clear c1
  go_enter Tryo.func306,Tryz.ntmps306
  go_wp2_with fail
  refine(SA.out _).mono ?_
  rintro e w' ⟨rfl,rfl⟩
  go_wp2_with fail
  refine(SB.out _).mono ?_
  rintro e w' ⟨rfl,rfl⟩
  go_wp2_with fail
  refine(HM.out _).mono ?_
  rintro e w' ⟨rfl,rfl⟩
  go_wp2_with fail
  go_ret2
  exact⟨aN H.out.1 H.out.2,rfl⟩
theorem Zm(a b x y hi lo:Int)(w:World)(a0:a<0)(b0:0<=b)(hab:Hid (a*b= -(hi*18446744073709551616+lo)))(l0:0<=lo)(l1:lo<18446744073709551616)(h0:0<=hi)
  (SA:Hid (∀w:World,Calls Tryo.prog 317 #[.int .i64 a] w fun e w'=>e= .returned (.int .u64 x)/\w=w'))
  (SB:Hid (∀w:World,Calls Tryo.prog 317 #[.int .i64 b] w fun e w'=>e= .returned (.int .u64 y)/\w=w'))
  (HM:Hid (∀w:World,Calls Tryo.prog 316 #[.int .u64 x,.int .u64 y] w fun e w'=>e= .returned (.tuple #[.int .u64 hi,.int .u64 lo])/\w=w')):
  Calls Tryo.prog 306 #[.int .i64 a,.int .i64 b] w fun e w'=>e= .returned (.tuple #[.int .i64 (Cal.Ig a b),.int .i64 (Cal.JB a b)])/\w=w':=by
 have da:decide (a<0)=true:=by simp;omega
 have db:decide (b<0)=false:=by simp;omega
 by_cases c1:hi=0
 ·have c1':(hi !=0)=false:=by rw [c1];rfl
  by_cases c2:wrap64 (IntKind.u64.wrap (-lo))=0
  ·have k:=qO _ hi lo hab.out l0 l1 c1 (by omega)
   have c2':(wrap64 (IntKind.u64.wrap (-lo))!=0)=false:=by rw [c2];rfl
   have H:=Lib.hid (iU a b k.1)
   have K:=Lib.hid k.2
   have C1:=Lib.hid c1
   have C2:=Lib.hid c2
   clear k c1 c2
   go_enter Tryo.func306,Tryz.ntmps306
   go_wp2_with fail
   refine(SA.out _).mono ?_
   rintro e w' ⟨rfl,rfl⟩
   go_wp2_with fail
   refine(SB.out _).mono ?_
   rintro e w' ⟨rfl,rfl⟩
   go_wp2_with fail
   refine(HM.out _).mono ?_
   rintro e w' ⟨rfl,rfl⟩
   go_wp2_with fail
   go_ret2
   first|exact⟨aN (K.out.trans H.out.1) H.out.2,rfl⟩|exact⟨aN (C2.out.symm.trans (K.out.trans H.out.1)) H.out.2,rfl⟩
  have c2':(wrap64 (IntKind.u64.wrap (-lo))!=0)=true:=by rw [bne_iff_ne];exact c2
  by_cases c3:wrap64 (IntKind.u64.wrap (-lo))<0
  ·have c3':decide (wrap64 (IntKind.u64.wrap (-lo))<0)=true:=by rw [decide_eq_true_eq];exact c3
   have k:=qO _ hi lo hab.out l0 l1 c1 (by omega)
   have H:=Lib.hid (iU a b k.1)
   have K:=Lib.hid k.2
   have C1:=Lib.hid c1
   have C2:=Lib.hid c2
   have C3:=Lib.hid c3
   clear k c1 c2 c3
   go_enter Tryo.func306,Tryz.ntmps306
   go_wp2_with fail
   refine(SA.out _).mono ?_
   rintro e w' ⟨rfl,rfl⟩
   go_wp2_with fail
   refine(SB.out _).mono ?_
   rintro e w' ⟨rfl,rfl⟩
   go_wp2_with fail
   refine(HM.out _).mono ?_
   rintro e w' ⟨rfl,rfl⟩
   go_wp2_with fail
   go_ret2
   first|exact⟨aN (K.out.trans H.out.1) H.out.2,rfl⟩|exact⟨aN (C2.out.symm.trans (K.out.trans H.out.1)) H.out.2,rfl⟩
  ·have c3':decide (wrap64 (IntKind.u64.wrap (-lo))<0)=false:=by rw [decide_eq_false_iff_not];exact c3
   have H:=Lib.hid (nu a b (zX _ hi lo hab.out l0 l1 h0 (.inr (by omega))))
   have C1:=Lib.hid c1
   have C2:=Lib.hid c2
   have C3:=Lib.hid c3
   clear c1 c2 c3
   go_enter Tryo.func306,Tryz.ntmps306
   go_wp2_with fail
   refine(SA.out _).mono ?_
   rintro e w' ⟨rfl,rfl⟩
   go_wp2_with fail
   refine(SB.out _).mono ?_
   rintro e w' ⟨rfl,rfl⟩
   go_wp2_with fail
   refine(HM.out _).mono ?_
   rintro e w' ⟨rfl,rfl⟩
   go_wp2_with fail
   go_ret2
   exact⟨aN H.out.1 H.out.2,rfl⟩
 ·have c1':(hi !=0)=true:=by rw [bne_iff_ne];exact c1
  have H:=Lib.hid (nu a b (zX _ hi lo hab.out l0 l1 h0 (.inl c1)))
  have C1:=Lib.hid c1
  clear c1
  go_enter Tryo.func306,Tryz.ntmps306
  go_wp2_with fail
  refine(SA.out _).mono ?_
  rintro e w' ⟨rfl,rfl⟩
  go_wp2_with fail
  refine(SB.out _).mono ?_
  rintro e w' ⟨rfl,rfl⟩
  go_wp2_with fail
  refine(HM.out _).mono ?_
  rintro e w' ⟨rfl,rfl⟩
  go_wp2_with fail
  go_ret2
  exact⟨aN H.out.1 H.out.2,rfl⟩
theorem aas(a b x y hi lo:Int)(w:World)(a0:0<=a)(b0:b<0)(hab:Hid (a*b= -(hi*18446744073709551616+lo)))(l0:0<=lo)(l1:lo<18446744073709551616)(h0:0<=hi)
  (SA:Hid (∀w:World,Calls Tryo.prog 317 #[.int .i64 a] w fun e w'=>e= .returned (.int .u64 x)/\w=w'))
  (SB:Hid (∀w:World,Calls Tryo.prog 317 #[.int .i64 b] w fun e w'=>e= .returned (.int .u64 y)/\w=w'))
  (HM:Hid (∀w:World,Calls Tryo.prog 316 #[.int .u64 x,.int .u64 y] w fun e w'=>e= .returned (.tuple #[.int .u64 hi,.int .u64 lo])/\w=w')):
  Calls Tryo.prog 306 #[.int .i64 a,.int .i64 b] w fun e w'=>e= .returned (.tuple #[.int .i64 (Cal.Ig a b),.int .i64 (Cal.JB a b)])/\w=w':=by
 have da:decide (a<0)=false:=by simp;omega
 have db:decide (b<0)=true:=by simp;omega
 by_cases c1:hi=0
 ·have c1':(hi !=0)=false:=by rw [c1];rfl
  by_cases c2:wrap64 (IntKind.u64.wrap (-lo))=0
  ·have k:=qO _ hi lo hab.out l0 l1 c1 (by omega)
   have c2':(wrap64 (IntKind.u64.wrap (-lo))!=0)=false:=by rw [c2];rfl
   have H:=Lib.hid (iU a b k.1)
   have K:=Lib.hid k.2
   have C1:=Lib.hid c1
   have C2:=Lib.hid c2
   clear k c1 c2
   go_enter Tryo.func306,Tryz.ntmps306
   go_wp2_with fail
   refine(SA.out _).mono ?_
   rintro e w' ⟨rfl,rfl⟩
   go_wp2_with fail
   refine(SB.out _).mono ?_
   rintro e w' ⟨rfl,rfl⟩
   go_wp2_with fail
   refine(HM.out _).mono ?_
   rintro e w' ⟨rfl,rfl⟩
   go_wp2_with fail
   go_ret2
   first|exact⟨aN (K.out.trans H.out.1) H.out.2,rfl⟩|exact⟨aN (C2.out.symm.trans (K.out.trans H.out.1)) H.out.2,rfl⟩
  have c2':(wrap64 (IntKind.u64.wrap (-lo))!=0)=true:=by rw [bne_iff_ne];exact c2
  by_cases c3:wrap64 (IntKind.u64.wrap (-lo))<0
  ·have c3':decide (wrap64 (IntKind.u64.wrap (-lo))<0)=true:=by rw [decide_eq_true_eq];exact c3
   have k:=qO _ hi lo hab.out l0 l1 c1 (by omega)
   have H:=Lib.hid (iU a b k.1)
   have K:=Lib.hid k.2
   have C1:=Lib.hid c1
   have C2:=Lib.hid c2
   have C3:=Lib.hid c3
   clear k c1 c2 c3
   go_enter Tryo.func306,Tryz.ntmps306
   go_wp2_with fail
   refine(SA.out _).mono ?_
   rintro e w' ⟨rfl,rfl⟩
   go_wp2_with fail
   refine(SB.out _).mono ?_
   rintro e w' ⟨rfl,rfl⟩
   go_wp2_with fail
   refine(HM.out _).mono ?_
   rintro e w' ⟨rfl,rfl⟩
   go_wp2_with fail
   go_ret2
   first|exact⟨aN (K.out.trans H.out.1) H.out.2,rfl⟩|exact⟨aN (C2.out.symm.trans (K.out.trans H.out.1)) H.out.2,rfl⟩
  ·have c3':decide (wrap64 (IntKind.u64.wrap (-lo))<0)=false:=by rw [decide_eq_false_iff_not];exact c3
   have H:=Lib.hid (nu a b (zX _ hi lo hab.out l0 l1 h0 (.inr (by omega))))
   have C1:=Lib.hid c1
   have C2:=Lib.hid c2
   have C3:=Lib.hid c3
   clear c1 c2 c3
   go_enter Tryo.func306,Tryz.ntmps306
   go_wp2_with fail
   refine(SA.out _).mono ?_
   rintro e w' ⟨rfl,rfl⟩
   go_wp2_with fail
   refine(SB.out _).mono ?_
   rintro e w' ⟨rfl,rfl⟩
   go_wp2_with fail
   refine(HM.out _).mono ?_
   rintro e w' ⟨rfl,rfl⟩
   go_wp2_with fail
   go_ret2
   exact⟨aN H.out.1 H.out.2,rfl⟩
 ·have c1':(hi !=0)=true:=by rw [bne_iff_ne];exact c1
  have H:=Lib.hid (nu a b (zX _ hi lo hab.out l0 l1 h0 (.inl c1)))
  have C1:=Lib.hid c1
  clear c1
  go_enter Tryo.func306,Tryz.ntmps306
  go_wp2_with fail
  refine(SA.out _).mono ?_
  rintro e w' ⟨rfl,rfl⟩
  go_wp2_with fail
  refine(SB.out _).mono ?_
  rintro e w' ⟨rfl,rfl⟩
  go_wp2_with fail
  refine(HM.out _).mono ?_
  rintro e w' ⟨rfl,rfl⟩
  go_wp2_with fail
  go_ret2
  exact⟨aN H.out.1 H.out.2,rfl⟩
theorem AJ(a b:Int)(w:World)(ha:I64 a)(hb:I64 b):
  Calls Tryo.prog 306 #[.int .i64 a,.int .i64 b] w fun e w'=>e= .returned (.tuple #[.int .i64 (Cal.Ig a b),.int .i64 (Cal.JB a b)])/\w=w':=by
 have hm:∀w:World,Calls Tryo.prog 316 #[.int .u64 (a.natAbs:Int),.int .u64 (b.natAbs:Int)] w fun e w'=>
   e= .returned (.tuple #[.int .u64 ((a.natAbs*b.natAbs / 18446744073709551616:Nat):Int),.int .u64 ((a.natAbs*b.natAbs % 18446744073709551616:Nat):Int)])/\w=w':=fun w=>
  (bits_Mul64 a.natAbs b.natAbs (by obtain⟨h1,h2⟩:=ha;omega) (by obtain⟨h1,h2⟩:=hb;omega) w).mono fun _ _ h=>⟨h.1,h.2.symm⟩
 have sa:=fun w=>G9 a w ha
 have sb:=fun w=>G9 b w hb
 have e1:=U2 a b
 have e2:=Tn a b
 generalize a.natAbs*b.natAbs=n at*
 by_cases a0:a<0 <;> by_cases b0:b<0
 ·exact ZN a b _ _ _ _ w a0 b0 (Lib.hid (by rw [e1 (by omega)];omega)) (by omega) (by omega) (by omega) (Lib.hid sa) (Lib.hid sb) (Lib.hid hm)
 ·exact Zm a b _ _ _ _ w a0 (by omega) (Lib.hid (by rw [e2 (by omega)];omega)) (by omega) (by omega) (by omega) (Lib.hid sa) (Lib.hid sb) (Lib.hid hm)
 ·exact aas a b _ _ _ _ w (by omega) b0 (Lib.hid (by rw [e2 (by omega)];omega)) (by omega) (by omega) (by omega) (Lib.hid sa) (Lib.hid sb) (Lib.hid hm)
 ·exact ZC a b _ _ _ _ w (by omega) (by omega) (Lib.hid (by rw [e1 (by omega)];omega)) (by omega) (by omega) (by omega) (Lib.hid sa) (Lib.hid sb) (Lib.hid hm)
end Go.Proofs.YthnjjcoahdhmnaaGreatDoor
namespace Go.Proofs.YthnjjcoahdhmnaaGreatDoor
open Go.ChangeShapes Go.WideShapes Go.ChangeAt Go.RowKit
theorem jD(a b:Int)(w:World)(ha:I64 a)(hb:I64 b)(h:Cal.fits (a*b)=true):
  Calls Tryo.prog 306 #[.int .i64 a,.int .i64 b] w fun e w'=>e= .returned (.tuple #[.int .i64 (a*b),.int .i64 0])/\w=w':=by
 have:=AJ a b w ha hb
 rwa [←(iU a b h).1,←(iU a b h).2]at this
theorem zM(a b:Int)(w:World)(ha:I64 a)(hb:I64 b)(h:Cal.fits (a*b)=false):
  Calls Tryo.prog 306 #[.int .i64 a,.int .i64 b] w fun e w'=>e= .returned (.tuple #[.int .i64 0,.int .i64 6])/\w=w':=by
 have:=AJ a b w ha hb
 rwa [←(nu a b h).1,←(nu a b h).2]at this
theorem En(a b:Int)(h:Cal.fits (a+b)=true):Cal.Gi a b=a+b/\Cal.F6 a b=0:=by rw [Cal.Gi,Cal.F6,h];exact⟨rfl,rfl⟩
theorem Um(a b:Int)(h:Cal.fits (a+b)=false):Cal.Gi a b=0/\Cal.F6 a b=6:=by rw [Cal.Gi,Cal.F6,h];exact⟨rfl,rfl⟩
theorem NJ(a b:Int)(w:World)(ha:I64 a)(hb:I64 b)(h:Cal.fits (a+b)=true):
  Calls Tryo.prog 307 #[.int .i64 a,.int .i64 b] w fun e w'=>e= .returned (.tuple #[.int .i64 (a+b),.int .i64 0])/\w=w':=by
 have:=Ay a b w ha hb
 rwa [(En a b h).1,(En a b h).2]at this
theorem KD(a b:Int)(w:World)(ha:I64 a)(hb:I64 b)(h:Cal.fits (a+b)=false):
  Calls Tryo.prog 307 #[.int .i64 a,.int .i64 b] w fun e w'=>e= .returned (.tuple #[.int .i64 0,.int .i64 6])/\w=w':=by
 have:=Ay a b w ha hb
 rwa [(Um a b h).1,(Um a b h).2]at this
theorem nP(a b:Int)(h:0<b):Cal.IJ a b=a / b/\Cal.IV a b=a % b/\Cal.Pf b=0:=by
 rw [Cal.IJ,Cal.IV,Cal.Pf,if_neg (by omega),if_neg (by omega),if_neg (by omega)];exact⟨rfl,rfl,rfl⟩
theorem jZ(a b:Int)(w:World)(ha:I64 a)(hb:I64 b)(h:0<b):
  Calls Tryo.prog 207 #[.int .i64 a,.int .i64 b] w fun e w'=>e= .returned (.tuple #[.int .i64 (a / b),.int .i64 0])/\w=w':=by
 have:=VG a b w ha hb
 rwa [(nP a b h).1,(nP a b h).2.2]at this
theorem iT(a b:Int)(w:World)(ha:I64 a)(hb:I64 b)(h:0<b):
  Calls Tryo.prog 83 #[.int .i64 a,.int .i64 b] w fun e w'=>e= .returned (.tuple #[.int .i64 (a % b),.int .i64 0])/\w=w':=by
 have:=Vh a b w ha hb
 rwa [(nP a b h).2.1,(nP a b h).2.2]at this
theorem iE(a b:Int)(w:World)(ha:I64 a)(h:0<b):
  Calls Tryo.prog 96 #[.int .i64 a,.int .i64 b] w fun e w'=>e= .returned (.int .i64 (a / b))/\w=w':=by
 have:=WM a b w ha h
 rwa [(nP a b h).1]at this
theorem oD(a b:Int)(w:World)(hb:I64 b)(h:0<b):
  Calls Tryo.prog 94 #[.int .i64 a,.int .i64 b] w fun e w'=>e= .returned (.int .i64 (a % b))/\w=w':=by
 have:=Xq a b w hb h
 rwa [(nP a b h).2.1]at this
end Go.Proofs.YthnjjcoahdhmnaaGreatDoor
namespace Go.Proofs.YthnjjcoahdhmnaaGreatDoor
open Go.ChangeShapes Go.WideShapes Go.ChangeAt Go.RowKit
theorem aA{W w1:World}(hb:Below W.heap.size W w1):(∀b o,b<W.heap.size->w1.cell? ⟨b,o,none⟩=W.cell? ⟨b,o,none⟩)/\(∀b o,b<W.heap.size->w1.frozen? ⟨b,o,none⟩=W.frozen? ⟨b,o,none⟩):=
 ⟨fun b o h=>hb.cell (p:=⟨b,o,none⟩) h,fun b o h=>hb.frozen (p:=⟨b,o,none⟩) h⟩
theorem RL(n:Int)(w:World)(hn:I64 n):
  Calls Tryo.prog 272 #[.int .i64 n] w fun e w'=>e= .returned (.agg #[.int .i64 (n / 25920),.int .i64 (n % 25920)])/\Below w.heap.size w w':=by
 go_enter Tryo.func272,Tryz.ntmps272
 go_wp2_with fail
 refine(jZ n 25920 _ hn ⟨by omega,by omega⟩ (by omega)).mono ?_
 rintro e w' ⟨rfl,rfl⟩
 go_wp2_with fail
 refine(iT n 25920 _ hn ⟨by omega,by omega⟩ (by omega)).mono ?_
 rintro e w' ⟨rfl,rfl⟩
 go_wp2_with fail
 refine bodyPost_ret (v:= .agg #[.int .i64 (n / 25920),.int .i64 (n % 25920)]) (by simp [results,Tryz.results272,go_sem]) rfl ⟨rfl, ?_⟩
 exact((Below.refl _ _).alloc (Nat.le_refl _) _)
theorem Vt(n:Int)(w:World)(hn:I64 n):
  Calls Tryo.prog 267 #[.int .i64 n] w fun e w'=>e= .returned (.agg #[.int .i64 (n / 25920),.int .i64 (n % 25920)])/\Below w.heap.size w w':=by
 go_enter Tryo.func267,Tryz.ntmps267
 go_wp2_with fail
 refine(iE n 25920 _ hn (by omega)).mono ?_
 rintro e w' ⟨rfl,rfl⟩
 go_wp2_with fail
 refine(oD n 25920 _ ⟨by omega,by omega⟩ (by omega)).mono ?_
 rintro e w' ⟨rfl,rfl⟩
 go_wp2_with fail
 refine bodyPost_ret (v:= .agg #[.int .i64 (n / 25920),.int .i64 (n % 25920)]) (by simp [results,Tryz.results267,go_sem]) rfl ⟨rfl, ?_⟩
 exact((Below.refl _ _).alloc (Nat.le_refl _) _)
theorem pR{n:Int}(h:Cal.fits n=true):I64 n:=by
 simp only [Cal.fits,Bool.and_eq_true,decide_eq_true_eq]at h
 exact h
theorem Rp(d h p:Int)(w:World)(hd:I64 d)(hh:I64 h)(hp:I64 p):
  Calls Tryo.prog 271 #[.int .i64 d,.int .i64 h,.int .i64 p] w fun e w'=>e= .returned (.tuple #[.int .i64 (Cal.Gf d h p),.int .i64 (Cal.GU d h p)])/\w=w':=by
 by_cases c1:Cal.fits (d*25920)=true
 ·by_cases c2:Cal.fits (h*1080)=true
  ·by_cases c3:Cal.fits (d*25920+h*1080)=true
   ·have i1:=pR c1
    have i2:=pR c2
    have i3:=pR c3
    have HS:=Lib.hid (Cal.F9 d h p c1 c2 c3)
    have HA:=Lib.hid (fun w=>Ay (d*25920+h*1080) p w i3 hp)
    have e1:wrap64 (d*25920)=d*25920:=IntWalk.wrap64_in _ i1
    clear e1
    go_enter Tryo.func271,Tryz.ntmps271
    go_wp2_with fail
    refine(jD d 25920 _ hd ⟨by omega,by omega⟩ c1).mono ?_
    rintro e w' ⟨rfl,rfl⟩
    go_wp2_with fail
    refine(jD h 1080 _ hh ⟨by omega,by omega⟩ c2).mono ?_
    rintro e w' ⟨rfl,rfl⟩
    go_wp2_with fail
    refine(NJ (d*25920) (h*1080) _ i1 i2 c3).mono ?_
    rintro e w' ⟨rfl,rfl⟩
    go_wp2_with fail
    refine(HA.out _).mono ?_
    rintro e w' ⟨rfl,rfl⟩
    go_wp2_with fail
    go_ret2
    exact⟨aN HS.out.1.symm HS.out.2.symm,rfl⟩
   ·have c3:Cal.fits (d*25920+h*1080)=false:=by simpa using c3
    have i1:=pR c1
    have i2:=pR c2
    have HS:=Lib.hid (Cal.EZ d h p (by rw [c3];simp))
    go_enter Tryo.func271,Tryz.ntmps271
    go_wp2_with fail
    refine(jD d 25920 _ hd ⟨by omega,by omega⟩ c1).mono ?_
    rintro e w' ⟨rfl,rfl⟩
    go_wp2_with fail
    refine(jD h 1080 _ hh ⟨by omega,by omega⟩ c2).mono ?_
    rintro e w' ⟨rfl,rfl⟩
    go_wp2_with fail
    refine(KD (d*25920) (h*1080) _ i1 i2 c3).mono ?_
    rintro e w' ⟨rfl,rfl⟩
    go_wp2_with fail
    go_ret2
    exact⟨aN HS.out.1.symm HS.out.2.symm,rfl⟩
  ·have c2:Cal.fits (h*1080)=false:=by simpa using c2
   have HS:=Lib.hid (Cal.EZ d h p (by rw [c2];simp))
   go_enter Tryo.func271,Tryz.ntmps271
   go_wp2_with fail
   refine(jD d 25920 _ hd ⟨by omega,by omega⟩ c1).mono ?_
   rintro e w' ⟨rfl,rfl⟩
   go_wp2_with fail
   refine(zM h 1080 _ hh ⟨by omega,by omega⟩ c2).mono ?_
   rintro e w' ⟨rfl,rfl⟩
   go_wp2_with fail
   go_ret2
   exact⟨aN HS.out.1.symm HS.out.2.symm,rfl⟩
 ·have c1:Cal.fits (d*25920)=false:=by simpa using c1
  have HS:=Lib.hid (Cal.EZ d h p (by rw [c1];simp))
  go_enter Tryo.func271,Tryz.ntmps271
  go_wp2_with fail
  refine(zM d 25920 _ hd ⟨by omega,by omega⟩ c1).mono ?_
  rintro e w' ⟨rfl,rfl⟩
  go_wp2_with fail
  go_ret2
  exact⟨aN HS.out.1.symm HS.out.2.symm,rfl⟩
theorem Rj(n:Int)(w:World)(hn:I64 n):
  Calls Tryo.prog 270 #[.int .i64 n] w fun e w'=>e= .returned (.tuple #[.int .i64 (Cal.Ig n 765433),.int .i64 (Cal.JB n 765433)])/\w=w':=by
 go_enter Tryo.func270,Tryz.ntmps270
 go_wp2_with fail
 refine(AJ n 765433 _ hn ⟨by omega,by omega⟩).mono ?_
 rintro e w' ⟨rfl,rfl⟩
 go_wp2_with fail
 go_ret2
 exact⟨rfl,rfl⟩
end Go.Proofs.YthnjjcoahdhmnaaGreatDoor
namespace Go.Proofs.YthnjjcoahdhmnaaGreatDoor
open Go.ChangeShapes Go.WideShapes Go.ChangeAt Go.RowKit
theorem bt{a b c:World}(h:Below a.heap.size a b)(k:Below b.heap.size b c):Below a.heap.size a c:=h.trans (k.mono h.size)
theorem ba(w:World)(o:Obj):Below w.heap.size w (w.alloc o):=(Below.refl _ _).alloc (Nat.le_refl _) _
theorem baa{a b:World}(h:Below a.heap.size a b)(o:Obj):Below a.heap.size a (b.alloc o):=h.alloc h.size _
theorem bs{a b:World}(h:Below a.heap.size a b){p:Addr}(hp:a.heap.size<=p.block)(u:Value):Below a.heap.size a (b.setCell p u):=h.setCell hp u
end Go.Proofs.YthnjjcoahdhmnaaGreatDoor
namespace Go.Proofs.YthnjjcoahdhmnaaGreatDoor
open Go.ChangeShapes Go.WideShapes Go.ChangeAt Go.RowKit
theorem bP(y:Int)(h0:0<=y)(h1:y<=10001):Cal.yu y=true:=by simp [Cal.yu,h0,h1]
theorem fQ(y:Int)(h:y<0∨10001<y):Cal.yu y=false:=by
 rw [Bool.eq_false_iff];intro h';simp only [Cal.yu,Bool.and_eq_true,decide_eq_true_eq]at h';omega
theorem jB(y:Int)(w:World):
  Calls Tryo.prog 173 #[.int .i64 y] w fun e w'=>e= .returned (.bool (Cal.yu y))/\w=w':=by
 rcases(show y<0∨(0<=y/\y<=10001)∨(0<=y/\10001<y) by omega)with c|⟨c,c'⟩|⟨c,c'⟩
 ·have HS:=Lib.hid (fQ y (by omega))
  go_enter Tryo.func173,Tryz.ntmps173
  go_wp2
  go_ret
  first|exact⟨fT HS.out.symm,rfl⟩|exact⟨fT ((decide_eq_false (by omega)).trans HS.out.symm),rfl⟩|exact⟨fT ((decide_eq_true (by omega)).trans HS.out.symm),rfl⟩
 ·have HS:=Lib.hid (bP y c c')
  go_enter Tryo.func173,Tryz.ntmps173
  go_wp2
  go_ret
  first|exact⟨fT HS.out.symm,rfl⟩|exact⟨fT ((decide_eq_false (by omega)).trans HS.out.symm),rfl⟩|exact⟨fT ((decide_eq_true (by omega)).trans HS.out.symm),rfl⟩
 ·have HS:=Lib.hid (fQ y (by omega))
  go_enter Tryo.func173,Tryz.ntmps173
  go_wp2
  go_ret
  first|exact⟨fT HS.out.symm,rfl⟩|exact⟨fT ((decide_eq_false (by omega)).trans HS.out.symm),rfl⟩|exact⟨fT ((decide_eq_true (by omega)).trans HS.out.symm),rfl⟩
theorem lW(y:Int)(w:World):
  Calls Tryo.prog 266 #[.int .i64 y] w fun e w'=>e= .returned (.bool (Cal.yu y))/\w=w':=by
 rcases(show y<0∨(0<=y/\y<=10001)∨(0<=y/\10001<y) by omega)with c|⟨c,c'⟩|⟨c,c'⟩
 ·have HS:=Lib.hid (fQ y (by omega))
  go_enter Tryo.func266,Tryz.ntmps266
  go_wp2
  go_ret
  first|exact⟨fT HS.out.symm,rfl⟩|exact⟨fT ((decide_eq_false (by omega)).trans HS.out.symm),rfl⟩|exact⟨fT ((decide_eq_true (by omega)).trans HS.out.symm),rfl⟩
 ·have HS:=Lib.hid (bP y c c')
  go_enter Tryo.func266,Tryz.ntmps266
  go_wp2
  go_ret
  first|exact⟨fT HS.out.symm,rfl⟩|exact⟨fT ((decide_eq_false (by omega)).trans HS.out.symm),rfl⟩|exact⟨fT ((decide_eq_true (by omega)).trans HS.out.symm),rfl⟩
 ·have HS:=Lib.hid (fQ y (by omega))
  go_enter Tryo.func266,Tryz.ntmps266
  go_wp2
  go_ret
  first|exact⟨fT HS.out.symm,rfl⟩|exact⟨fT ((decide_eq_false (by omega)).trans HS.out.symm),rfl⟩|exact⟨fT ((decide_eq_true (by omega)).trans HS.out.symm),rfl⟩
theorem Cb(a b:Int)(w:World)(ha:I64 a)(hb:I64 b)(h:0<b):
  Calls Tryo.prog 174 #[.int .i64 a,.int .i64 b] w fun e w'=>e= .returned (.tuple #[.int .i64 (a / b),.int .i64 (a % b)])/\w=w':=by
 have HD:=Lib.hid (fun w=>jZ a b w ha hb h)
 have HM:=Lib.hid (fun w=>iT a b w ha hb h)
 go_enter Tryo.func174,Tryz.ntmps174
 go_wp2_with fail
 refine(HD.out _).mono ?_
 rintro e w' ⟨rfl,rfl⟩
 go_wp2_with fail
 refine(HM.out _).mono ?_
 rintro e w' ⟨rfl,rfl⟩
 go_wp2_with fail
 go_ret2
 exact⟨rfl,rfl⟩
theorem Gw(y:Int)(w:World):
  Calls Tryo.prog 102 #[.int .i64 y] w fun e w'=>e= .returned (.tuple #[.bool (Cal.yO y),.int .i64 (Cal.bX y)])/\w=w':=by
 by_cases c:0<=y/\y<=10001
 ·obtain⟨c1,c2⟩:=c
  have h:=bP y c1 c2
  have HS:=Lib.hid (show Cal.yO y=decide ((7*y+1) % 19<7)/\Cal.bX y=0 by rw [Cal.yO,Cal.bX,h];exact⟨rfl,rfl⟩)
  go_enter Tryo.func102,Tryz.ntmps102
  go_wp2_with fail
  refine(jB y _).mono ?_
  rintro e w' ⟨rfl,rfl⟩
  go_wp2_with fail
  refine(Cb (7*y+1) 19 _ ⟨by omega,by omega⟩ ⟨by omega,by omega⟩ (by omega)).mono ?_
  rintro e w' ⟨rfl,rfl⟩
  go_wp2_with fail
  go_ret2
  exact⟨Wd HS.out.1.symm HS.out.2.symm,rfl⟩
 ·have h:=fQ y (by omega)
  have HS:=Lib.hid (show Cal.yO y=false/\Cal.bX y=2 by rw [Cal.yO,Cal.bX,h];exact⟨rfl,rfl⟩)
  go_enter Tryo.func102,Tryz.ntmps102
  go_wp2_with fail
  refine(jB y _).mono ?_
  rintro e w' ⟨rfl,rfl⟩
  go_wp2_with fail
  go_ret2
  exact⟨Wd HS.out.1.symm HS.out.2.symm,rfl⟩
theorem UU(y:Int)(h0:0<=y)(h1:y<=10001):Cal.yO y=Cal.leap y/\Cal.bX y=0:=by rw [Cal.yO,Cal.bX,bP y h0 h1];exact⟨rfl,rfl⟩
theorem UH(y:Int)(h:y<0∨10001<y):Cal.yO y=false/\Cal.bX y=2:=by rw [Cal.yO,Cal.bX,fQ y h];exact⟨rfl,rfl⟩
theorem bR(y:Int)(w:World)(h0:0<=y)(h1:y<=10001):
  Calls Tryo.prog 102 #[.int .i64 y] w fun e w'=>e= .returned (.tuple #[.bool (Cal.leap y),.int .i64 0])/\w=w':=by
 have:=Gw y w
 rwa [(UU y h0 h1).1,(UU y h0 h1).2]at this
theorem nC(y:Int)(w:World)(h:y<0∨10001<y):
  Calls Tryo.prog 102 #[.int .i64 y] w fun e w'=>e= .returned (.tuple #[.bool false,.int .i64 2])/\w=w':=by
 have:=Gw y w
 rwa [(UH y h).1,(UH y h).2]at this
theorem oG(y:Int)(w:World)(h0: -1099511627776<=y)(h1:y<=1099511627776):
  Calls Tryo.prog 117 #[.int .i64 y] w fun e w'=>e= .returned (.bool (Cal.leap y))/\w=w':=by
 go_enter Tryo.func117,Tryz.ntmps117
 go_wp2_with fail
 refine(oD (7*y+1) 19 _ ⟨by omega,by omega⟩ (by omega)).mono ?_
 rintro e w' ⟨rfl,rfl⟩
 go_wp2_with fail
 go_ret
 exact⟨rfl,rfl⟩
theorem GR(y:Int)(h0:0<=y)(h1:y<=10001)(h:Cal.leap y=true):Cal.j3 y=13/\Cal.bX y=0:=by
 rw [Cal.j3,Cal.months,Cal.bX,bP y h0 h1,h];exact⟨rfl,rfl⟩
theorem yx(y:Int)(h0:0<=y)(h1:y<=10001)(h:Cal.leap y=false):Cal.j3 y=12/\Cal.bX y=0:=by
 rw [Cal.j3,Cal.months,Cal.bX,bP y h0 h1,h];exact⟨rfl,rfl⟩
theorem lC(y:Int)(h:y<0∨10001<y):Cal.j3 y=0/\Cal.bX y=2:=by rw [Cal.j3,Cal.bX,fQ y h];exact⟨rfl,rfl⟩
theorem O8(y:Int)(w:World):
  Calls Tryo.prog 222 #[.int .i64 y] w fun e w'=>e= .returned (.tuple #[.int .i64 (Cal.j3 y),.int .i64 (Cal.bX y)])/\w=w':=by
 by_cases c:0<=y/\y<=10001
 ·obtain⟨c1,c2⟩:=c
  have hr:=bP y c1 c2
  cases h:Cal.leap y
  ·have HS:=Lib.hid (yx y c1 c2 h)
   go_enter Tryo.func222,Tryz.ntmps222
   go_wp2_with fail
   refine(bR y _ c1 c2).mono ?_
   rintro e w' ⟨rfl,rfl⟩
   go_wp2_with fail
   go_ret2
   exact⟨aN HS.out.1.symm HS.out.2.symm,rfl⟩
  ·have HS:=Lib.hid (GR y c1 c2 h)
   go_enter Tryo.func222,Tryz.ntmps222
   go_wp2_with fail
   refine(bR y _ c1 c2).mono ?_
   rintro e w' ⟨rfl,rfl⟩
   go_wp2_with fail
   go_ret2
   exact⟨aN HS.out.1.symm HS.out.2.symm,rfl⟩
 ·have hr:=fQ y (by omega)
  have HS:=Lib.hid (lC y (by omega))
  go_enter Tryo.func222,Tryz.ntmps222
  go_wp2_with fail
  refine(nC y _ (by omega)).mono ?_
  rintro e w' ⟨rfl,rfl⟩
  go_wp2_with fail
  go_ret2
  exact⟨aN HS.out.1.symm HS.out.2.symm,rfl⟩
theorem Ur(y:Int)(w:World):
  Calls Tryo.prog 214 #[.int .i64 y] w fun e w'=>e= .returned (.tuple #[.int .i64 (Cal.j3 y),.int .i64 (Cal.bX y)])/\w=w':=by
 by_cases c:0<=y/\y<=10001
 ·obtain⟨c1,c2⟩:=c
  have hr:=bP y c1 c2
  cases h:Cal.leap y
  ·have HS:=Lib.hid (yx y c1 c2 h)
   go_enter Tryo.func214,Tryz.ntmps214
   go_wp2_with fail
   refine(lW y _).mono ?_
   rintro e w' ⟨rfl,rfl⟩
   go_wp2_with fail
   refine(oG y _ (by omega) (by omega)).mono ?_
   rintro e w' ⟨rfl,rfl⟩
   go_wp2_with fail
   go_ret2
   exact⟨aN HS.out.1.symm HS.out.2.symm,rfl⟩
  ·have HS:=Lib.hid (GR y c1 c2 h)
   go_enter Tryo.func214,Tryz.ntmps214
   go_wp2_with fail
   refine(lW y _).mono ?_
   rintro e w' ⟨rfl,rfl⟩
   go_wp2_with fail
   refine(oG y _ (by omega) (by omega)).mono ?_
   rintro e w' ⟨rfl,rfl⟩
   go_wp2_with fail
   go_ret2
   exact⟨aN HS.out.1.symm HS.out.2.symm,rfl⟩
 ·have hr:=fQ y (by omega)
  have HS:=Lib.hid (lC y (by omega))
  go_enter Tryo.func214,Tryz.ntmps214
  go_wp2_with fail
  refine(lW y _).mono ?_
  rintro e w' ⟨rfl,rfl⟩
  go_wp2_with fail
  go_ret2
  exact⟨aN HS.out.1.symm HS.out.2.symm,rfl⟩
theorem kZ(y:Int)(h0:0<=y)(h1:y<=10001):Cal.sH y=Cal.before y/\Cal.bX y=0:=by rw [Cal.sH,Cal.bX,bP y h0 h1];exact⟨rfl,rfl⟩
theorem JU(y:Int)(h:y<0∨10001<y):Cal.sH y=0/\Cal.bX y=2:=by rw [Cal.sH,Cal.bX,fQ y h];exact⟨rfl,rfl⟩
theorem Mk(y:Int)(w:World):
  Calls Tryo.prog 223 #[.int .i64 y] w fun e w'=>e= .returned (.tuple #[.int .i64 (Cal.sH y),.int .i64 (Cal.bX y)])/\w=w':=by
 by_cases c:0<=y/\y<=10001
 ·obtain⟨c1,c2⟩:=c
  have hr:=bP y c1 c2
  have hs:=kZ y c1 c2
  rw [show Cal.before y=(235*y-235+1) / 19 by unfold Cal.before;congr 1;omega]at hs
  have HS:=Lib.hid hs
  clear hs
  go_enter Tryo.func223,Tryz.ntmps223
  go_wp2_with fail
  refine(jB y _).mono ?_
  rintro e w' ⟨rfl,rfl⟩
  go_wp2_with fail
  refine(Cb (235*y-235+1) 19 _ ⟨by omega,by omega⟩ ⟨by omega,by omega⟩ (by omega)).mono ?_
  rintro e w' ⟨rfl,rfl⟩
  go_wp2_with fail
  go_ret2
  exact⟨aN HS.out.1.symm HS.out.2.symm,rfl⟩
 ·have hr:=fQ y (by omega)
  have HS:=Lib.hid (JU y (by omega))
  go_enter Tryo.func223,Tryz.ntmps223
  go_wp2_with fail
  refine(jB y _).mono ?_
  rintro e w' ⟨rfl,rfl⟩
  go_wp2_with fail
  go_ret2
  exact⟨aN HS.out.1.symm HS.out.2.symm,rfl⟩
theorem Qg(y:Int)(w:World):
  Calls Tryo.prog 215 #[.int .i64 y] w fun e w'=>e= .returned (.tuple #[.int .i64 (Cal.sH y),.int .i64 (Cal.bX y)])/\w=w':=by
 by_cases c:0<=y/\y<=10001
 ·obtain⟨c1,c2⟩:=c
  have hr:=bP y c1 c2
  have HS:=Lib.hid (kZ y c1 c2)
  go_enter Tryo.func215,Tryz.ntmps215
  go_wp2_with fail
  refine(lW y _).mono ?_
  rintro e w' ⟨rfl,rfl⟩
  go_wp2_with fail
  refine(iE (235*y-234) 19 _ ⟨by omega,by omega⟩ (by omega)).mono ?_
  rintro e w' ⟨rfl,rfl⟩
  go_wp2_with fail
  go_ret2
  exact⟨aN HS.out.1.symm HS.out.2.symm,rfl⟩
 ·have hr:=fQ y (by omega)
  have HS:=Lib.hid (JU y (by omega))
  go_enter Tryo.func215,Tryz.ntmps215
  go_wp2_with fail
  refine(lW y _).mono ?_
  rintro e w' ⟨rfl,rfl⟩
  go_wp2_with fail
  go_ret2
  exact⟨aN HS.out.1.symm HS.out.2.symm,rfl⟩
theorem qK(y:Int)(w:World)(h0:0<=y)(h1:y<=10001):
  Calls Tryo.prog 222 #[.int .i64 y] w fun e w'=>e= .returned (.tuple #[.int .i64 (Cal.months y),.int .i64 0])/\w=w':=by
 have:=O8 y w
 rwa [Cal.j3,Cal.bX,bP y h0 h1,if_pos rfl,if_pos rfl]at this
theorem PV(y:Int)(w:World)(h:y<0∨10001<y):
  Calls Tryo.prog 222 #[.int .i64 y] w fun e w'=>e= .returned (.tuple #[.int .i64 0,.int .i64 2])/\w=w':=by
 have:=O8 y w
 rwa [(lC y h).1,(lC y h).2]at this
theorem uS(y:Int)(w:World)(h0:0<=y)(h1:y<=10001):
  Calls Tryo.prog 214 #[.int .i64 y] w fun e w'=>e= .returned (.tuple #[.int .i64 (Cal.months y),.int .i64 0])/\w=w':=by
 have:=Ur y w
 rwa [Cal.j3,Cal.bX,bP y h0 h1,if_pos rfl,if_pos rfl]at this
theorem Tm(y:Int)(w:World)(h:y<0∨10001<y):
  Calls Tryo.prog 214 #[.int .i64 y] w fun e w'=>e= .returned (.tuple #[.int .i64 0,.int .i64 2])/\w=w':=by
 have:=Ur y w
 rwa [(lC y h).1,(lC y h).2]at this
theorem Dx(y:Int)(w:World)(h0:0<=y)(h1:y<=10001):
  Calls Tryo.prog 223 #[.int .i64 y] w fun e w'=>e= .returned (.tuple #[.int .i64 (Cal.before y),.int .i64 0])/\w=w':=by
 have:=Mk y w
 rwa [(kZ y h0 h1).1,(kZ y h0 h1).2]at this
theorem Gg(y:Int)(w:World)(h0:0<=y)(h1:y<=10001):
  Calls Tryo.prog 215 #[.int .i64 y] w fun e w'=>e= .returned (.tuple #[.int .i64 (Cal.before y),.int .i64 0])/\w=w':=by
 have:=Qg y w
 rwa [(kZ y h0 h1).1,(kZ y h0 h1).2]at this
end Go.Proofs.YthnjjcoahdhmnaaGreatDoor
namespace Go.Proofs.YthnjjcoahdhmnaaGreatDoor
open Go.ChangeShapes Go.WideShapes Go.ChangeAt Go.RowKit
theorem aT(d:Int)(w:World)(hd:I64 d):
  Calls Tryo.prog 27 #[.int .i64 d] w fun e w'=>e= .returned (.int .i64 (d % 7))/\w=w':=by
 go_enter Tryo.func27,Tryz.ntmps27
 go_wp2_with fail
 refine(iT d 7 _ hd ⟨by omega,by omega⟩ (by omega)).mono ?_
 rintro e w' ⟨rfl,rfl⟩
 go_wp2_with fail
 go_ret
 exact⟨rfl,rfl⟩
theorem bS(d:Int)(w:World):
  Calls Tryo.prog 34 #[.int .i64 d] w fun e w'=>e= .returned (.int .i64 (d % 7))/\w=w':=by
 go_enter Tryo.func34,Tryz.ntmps34
 go_wp2_with fail
 refine(oD d 7 _ ⟨by omega,by omega⟩ (by omega)).mono ?_
 rintro e w' ⟨rfl,rfl⟩
 go_wp2_with fail
 go_ret
 exact⟨rfl,rfl⟩
theorem ko(n:Int)(h1: -200000<=n)(h2:n<=200000):Cal.J8 n=Cal.aW n/\Cal.JZ n=Cal.aV n/\Cal.JJ n=0:=by
 have h:Cal.yh n=true:=by simp [Cal.yh,h1,h2]
 rw [Cal.J8,Cal.JZ,Cal.JJ,h];exact⟨rfl,rfl,rfl⟩
theorem D8(n:Int)(h:n< -200000∨200000<n):Cal.J8 n=0/\Cal.JZ n=0/\Cal.JJ n=2:=by
 have h:Cal.yh n=false:=by
  rw [Bool.eq_false_iff];intro h';simp only [Cal.yh,Bool.and_eq_true,decide_eq_true_eq]at h';omega
 rw [Cal.J8,Cal.JZ,Cal.JJ,h];exact⟨rfl,rfl,rfl⟩
theorem ES(n:Int)(w:World)(h1: -200000<=n)(h2:n<=200000):
  Calls Tryo.prog 270 #[.int .i64 n] w fun e w'=>e= .returned (.tuple #[.int .i64 (n*765433),.int .i64 0])/\w=w':=by
 have:=Rj n w ⟨by omega,by omega⟩
 have hf:Cal.fits (n*765433)=true:=nR (by omega) (by omega)
 rwa [←(iU _ _ hf).1,←(iU _ _ hf).2]at this
theorem Bf(n:Int)(w:World)(h1: -200000<=n)(h2:n<=200000):
  Calls Tryo.prog 271 #[.int .i64 (-1373427),.int .i64 5,.int .i64 (204+n*765433)] w fun e w'=>e= .returned (.tuple #[.int .i64 (5604+765433*n-35599227840),.int .i64 0])/\w=w':=by
 have:=Rp (-1373427) 5 (204+n*765433) w ⟨by omega,by omega⟩ ⟨by omega,by omega⟩ ⟨by omega,by omega⟩
 have f4:Cal.fits (-1373427*25920+5*1080+(204+n*765433))=true:=nR (by omega) (by omega)
 rw [(Cal.F9 (-1373427) 5 (204+n*765433) (by decide) (by decide) (by decide)).1,(Cal.F9 (-1373427) 5 (204+n*765433) (by decide) (by decide) (by decide)).2,(En _ _ f4).1,(En _ _ f4).2]at this
 rwa [show -1373427*25920+5*1080+(204+n*765433)=5604+765433*n-35599227840 by omega]at this
theorem Ag(n:Int)(w:World)(h1: -200000<=n)(h2:n<=200000):
  Calls Tryo.prog 272 #[.int .i64 (5604+765433*n-35599227840)] w fun e w'=>e= .returned (.agg #[.int .i64 (Cal.aW n),.int .i64 (Cal.aV n)])/\Below w.heap.size w w':=by
 have:=RL (5604+765433*n-35599227840) w ⟨by omega,by omega⟩
 rwa [show(5604+765433*n-35599227840) / 25920=Cal.aW n by unfold Cal.aW;omega,show(5604+765433*n-35599227840) % 25920=Cal.aV n by unfold Cal.aV;omega]at this
theorem Td(n:Int)(w:World):
  Calls Tryo.prog 224 #[.int .i64 n] w fun e w'=>e= .returned (.tuple #[.agg #[.int .i64 (Cal.J8 n),.int .i64 (Cal.JZ n)],.int .i64 (Cal.JJ n)])/\Below w.heap.size w w':=by
 rcases(show n< -200000∨(-200000<=n/\n<=200000)∨(-200000<=n/\200000<n) by omega)with c|⟨c1,c2⟩|⟨c1,c⟩
 ·have HS:=D8 n (by omega)
  rw [HS.1,HS.2.1,HS.2.2]
  clear HS
  go_enter Tryo.func224,Tryz.ntmps224
  go_wp2_with fail
  refine bodyPost_ret (v:= .tuple #[.agg #[.int .i64 0,.int .i64 0],.int .i64 2]) (by simp [results,Tryz.results224,go_sem]) rfl ⟨rfl,ba _ _⟩
 ·have HS:=ko n c1 c2
  rw [HS.1,HS.2.1,HS.2.2]
  clear HS
  go_enter Tryo.func224,Tryz.ntmps224
  go_wp2_with fail
  refine(ES n _ c1 c2).mono ?_
  rintro e w' ⟨rfl,rfl⟩
  go_wp2_with fail
  refine(Bf n _ c1 c2).mono ?_
  rintro e w' ⟨rfl,rfl⟩
  go_wp2_with fail
  refine(Ag n _ c1 c2).mono ?_
  rintro e w1 ⟨rfl,hb1⟩
  obtain⟨hc1,hf1⟩:=aA hb1
  have hz1:=hb1.size
  try simp at hz1
  have hl1w:w.heap.size<w1.heap.size:=by omega
  have hm1w:w.heap.size<=w1.heap.size:=by omega
  have g1x0:w1.cell? ⟨w.heap.size,0,none⟩=some (.int .i64 0):=(hc1 _ _ (by simp;try omega)).trans (by first|assumption|simp [go_sem]|simp [go_sem, *])
  have g1x1:w1.cell? ⟨w.heap.size,1,none⟩=some (.int .i64 0):=(hc1 _ _ (by simp;try omega)).trans (by first|assumption|simp [go_sem]|simp [go_sem, *])
  go_wp2_with fail
  refine bodyPost_ret (v:= .tuple #[.agg #[.int .i64 (Cal.aW n),.int .i64 (Cal.aV n)],.int .i64 0]) (by simp [results,Tryz.results224,go_sem,g1x0,g1x1]) rfl ⟨rfl, ?_⟩
  exact bs (bs (bt (ba _ _) hb1) (Nat.le_refl _) _) (Nat.le_refl _) _
 ·have HS:=D8 n (by omega)
  rw [HS.1,HS.2.1,HS.2.2]
  clear HS
  go_enter Tryo.func224,Tryz.ntmps224
  go_wp2_with fail
  refine bodyPost_ret (v:= .tuple #[.agg #[.int .i64 0,.int .i64 0],.int .i64 2]) (by simp [results,Tryz.results224,go_sem]) rfl ⟨rfl,ba _ _⟩
theorem CS(n:Int)(w:World)(h1: -200000<=n)(h2:n<=200000):
  Calls Tryo.prog 267 #[.int .i64 (5604+765433*n)] w fun e w'=>e= .returned (.agg #[.int .i64 (Cal.aW n+1373427),.int .i64 (Cal.aV n)])/\Below w.heap.size w w':=by
 have:=Vt (5604+765433*n) w ⟨by omega,by omega⟩
 rwa [show(5604+765433*n) / 25920=Cal.aW n+1373427 by unfold Cal.aW;omega,show(5604+765433*n) % 25920=Cal.aV n by unfold Cal.aV;rfl]at this
theorem oN(n:Int)(h1: -200000<=n)(h2:n<=200000): -7300000<=Cal.aW n/\Cal.aW n<=4600000:=by unfold Cal.aW;omega
theorem CJ(n:Int):0<=Cal.aV n/\Cal.aV n<25920:=by unfold Cal.aV;omega
theorem VU(n:Int)(w:World):
  Calls Tryo.prog 216 #[.int .i64 n] w fun e w'=>e= .returned (.tuple #[.agg #[.int .i64 (Cal.J8 n),.int .i64 (Cal.JZ n)],.int .i64 (Cal.JJ n)])/\Below w.heap.size w w':=by
 rcases(show n< -200000∨(-200000<=n/\n<=200000)∨(-200000<=n/\200000<n) by omega)with c|⟨c1,c2⟩|⟨c1,c⟩
 ·have HS:=D8 n (by omega)
  rw [HS.1,HS.2.1,HS.2.2]
  clear HS
  go_enter Tryo.func216,Tryz.ntmps216
  go_wp2_with fail
  refine bodyPost_ret (v:= .tuple #[.agg #[.int .i64 0,.int .i64 0],.int .i64 2]) (by simp [results,Tryz.results216,go_sem]) rfl ⟨rfl,ba _ _⟩
 ·have HS:=ko n c1 c2
  rw [HS.1,HS.2.1,HS.2.2]
  clear HS
  obtain⟨d1,d2⟩:=oN n c1 c2
  have e1:Cal.aW n+1373427-1373427=Cal.aW n:=by omega
  go_enter Tryo.func216,Tryz.ntmps216
  go_wp2_with fail
  refine(CS n _ c1 c2).mono ?_
  rintro e w1 ⟨rfl,hb1⟩
  obtain⟨hc1,hf1⟩:=aA hb1
  have hz1:=hb1.size
  try simp at hz1
  have hl1w:w.heap.size<w1.heap.size:=by omega
  have hm1w:w.heap.size<=w1.heap.size:=by omega
  have g1x0:w1.cell? ⟨w.heap.size,0,none⟩=some (.int .i64 0):=(hc1 _ _ (by simp;try omega)).trans (by first|assumption|simp [go_sem]|simp [go_sem, *])
  have g1x1:w1.cell? ⟨w.heap.size,1,none⟩=some (.int .i64 0):=(hc1 _ _ (by simp;try omega)).trans (by first|assumption|simp [go_sem]|simp [go_sem, *])
  go_wp2_with fail
  refine bodyPost_ret (v:= .tuple #[.agg #[.int .i64 (Cal.aW n),.int .i64 (Cal.aV n)],.int .i64 0]) (by simp [results,Tryz.results216,go_sem,g1x0,g1x1,hl1w]) rfl ⟨rfl, ?_⟩
  exact baa (bs (bs (bt (ba _ _) hb1) (Nat.le_refl _) _) (Nat.le_refl _) _) _
 ·have HS:=D8 n (by omega)
  rw [HS.1,HS.2.1,HS.2.2]
  clear HS
  go_enter Tryo.func216,Tryz.ntmps216
  go_wp2_with fail
  refine bodyPost_ret (v:= .tuple #[.agg #[.int .i64 0,.int .i64 0],.int .i64 2]) (by simp [results,Tryz.results216,go_sem]) rfl ⟨rfl,ba _ _⟩
theorem nM(y:Int):12<=Cal.months y/\Cal.months y<=13:=by unfold Cal.months;split <;> omega
theorem nJ(y:Int)(h0:0<=y)(h1:y<=10001): -13<=Cal.before y/\Cal.before y<=123700:=by unfold Cal.before;omega
theorem BX(y m:Int)(h:y<0∨10001<y):Cal.ofD y m=0/\Cal.ofP y m=0/\Cal.ofE y m=2:=by
 rw [Cal.ofD,Cal.ofP,Cal.ofE,fQ y h];exact⟨rfl,rfl,rfl⟩
theorem Bj(y m:Int)(h0:0<=y)(h1:y<=10001)(m1:1<=m)(m2:m<=Cal.months y):Cal.ofD y m=Cal.aW (Cal.before y+m-1)/\Cal.ofP y m=Cal.aV (Cal.before y+m-1)/\Cal.ofE y m=0:=by
 have h:Cal.TR y m=true:=by simp [Cal.TR,m1,m2]
 rw [Cal.ofD,Cal.ofP,Cal.ofE,bP y h0 h1,h];exact⟨rfl,rfl,rfl⟩
theorem zH(y m:Int)(h0:0<=y)(h1:y<=10001)(h:m<1∨Cal.months y<m):Cal.ofD y m=0/\Cal.ofP y m=0/\Cal.ofE y m=3:=by
 have h:Cal.TR y m=false:=by
  rw [Bool.eq_false_iff];intro h';simp only [Cal.TR,Bool.and_eq_true,decide_eq_true_eq]at h';omega
 rw [Cal.ofD,Cal.ofP,Cal.ofE,bP y h0 h1,h];exact⟨rfl,rfl,rfl⟩
theorem JD(n:Int)(w:World)(h1: -200000<=n)(h2:n<=200000):
  Calls Tryo.prog 224 #[.int .i64 n] w fun e w'=>e= .returned (.tuple #[.agg #[.int .i64 (Cal.aW n),.int .i64 (Cal.aV n)],.int .i64 0])/\Below w.heap.size w w':=by
 have:=Td n w
 rwa [(ko n h1 h2).1,(ko n h1 h2).2.1,(ko n h1 h2).2.2]at this
theorem KH(n:Int)(w:World)(h1: -200000<=n)(h2:n<=200000):
  Calls Tryo.prog 216 #[.int .i64 n] w fun e w'=>e= .returned (.tuple #[.agg #[.int .i64 (Cal.aW n),.int .i64 (Cal.aV n)],.int .i64 0])/\Below w.heap.size w w':=by
 have:=VU n w
 rwa [(ko n h1 h2).1,(ko n h1 h2).2.1,(ko n h1 h2).2.2]at this
theorem Rv(y m:Int)(w:World)(hm:I64 m):
  Calls Tryo.prog 176 #[.int .i64 y,.int .i64 m] w fun e w'=>e= .returned (.tuple #[.agg #[.int .i64 (Cal.ofD y m),.int .i64 (Cal.ofP y m)],.int .i64 (Cal.ofE y m)])/\Below w.heap.size w w':=by
 by_cases c:0<=y/\y<=10001
 ·obtain⟨c1,c2⟩:=c
  obtain⟨b1,b2⟩:=nM y
  obtain⟨b3,b4⟩:=nJ y c1 c2
  rcases(show m<1∨(1<=m/\m<=Cal.months y)∨(1<=m/\Cal.months y<m) by omega)with c|⟨m1,m2⟩|⟨m1,c⟩
  ·have HS:=zH y m c1 c2 (.inl c)
   rw [HS.1,HS.2.1,HS.2.2]
   clear HS
   go_enter Tryo.func176,Tryz.ntmps176
   go_wp2_with fail
   refine(qK y _ c1 c2).mono ?_
   rintro e w' ⟨rfl,rfl⟩
   go_wp2_with fail
   refine bodyPost_ret (v:= .tuple #[.agg #[.int .i64 0,.int .i64 0],.int .i64 3]) (by simp [results,Tryz.results176,go_sem]) rfl ⟨rfl,ba _ _⟩
  ·have HS:=Bj y m c1 c2 m1 m2
   rw [HS.1,HS.2.1,HS.2.2]
   clear HS
   obtain⟨m3,m4⟩:=hm
   go_enter Tryo.func176,Tryz.ntmps176
   go_wp2_with fail
   refine(qK y _ c1 c2).mono ?_
   rintro e w' ⟨rfl,rfl⟩
   go_wp2_with fail
   refine(Dx y _ c1 c2).mono ?_
   rintro e w' ⟨rfl,rfl⟩
   go_wp2_with fail
   refine(JD (Cal.before y+m-1) _ (by omega) (by omega)).mono ?_
   rintro e w1 ⟨rfl,hb1⟩
   obtain⟨hc1,hf1⟩:=aA hb1
   have hz1:=hb1.size
   try simp at hz1
   have hl1w:w.heap.size<w1.heap.size:=by omega
   have hm1w:w.heap.size<=w1.heap.size:=by omega
   have g1x0:w1.cell? ⟨w.heap.size,0,none⟩=some (.int .i64 0):=(hc1 _ _ (by simp;try omega)).trans (by first|assumption|simp [go_sem]|simp [go_sem, *])
   have g1x1:w1.cell? ⟨w.heap.size,1,none⟩=some (.int .i64 0):=(hc1 _ _ (by simp;try omega)).trans (by first|assumption|simp [go_sem]|simp [go_sem, *])
   go_wp2_with fail
   refine bodyPost_ret (v:= .tuple #[.agg #[.int .i64 (Cal.aW (Cal.before y+m-1)),.int .i64 (Cal.aV (Cal.before y+m-1))],.int .i64 0]) (by simp [results,Tryz.results176,go_sem,g1x0,g1x1]) rfl ⟨rfl, ?_⟩
   exact bs (bs (bt (ba _ _) hb1) (Nat.le_refl _) _) (Nat.le_refl _) _
  ·have HS:=zH y m c1 c2 (.inr c)
   rw [HS.1,HS.2.1,HS.2.2]
   clear HS
   go_enter Tryo.func176,Tryz.ntmps176
   go_wp2_with fail
   refine(qK y _ c1 c2).mono ?_
   rintro e w' ⟨rfl,rfl⟩
   go_wp2_with fail
   refine bodyPost_ret (v:= .tuple #[.agg #[.int .i64 0,.int .i64 0],.int .i64 3]) (by simp [results,Tryz.results176,go_sem]) rfl ⟨rfl,ba _ _⟩
 ·have HS:=BX y m (by omega)
  rw [HS.1,HS.2.1,HS.2.2]
  clear HS
  go_enter Tryo.func176,Tryz.ntmps176
  go_wp2_with fail
  refine(PV y _ (by omega)).mono ?_
  rintro e w' ⟨rfl,rfl⟩
  go_wp2_with fail
  refine bodyPost_ret (v:= .tuple #[.agg #[.int .i64 0,.int .i64 0],.int .i64 2]) (by simp [results,Tryz.results176,go_sem]) rfl ⟨rfl,ba _ _⟩
theorem Uz(y m:Int)(w:World)(hm:I64 m):
  Calls Tryo.prog 161 #[.int .i64 y,.int .i64 m] w fun e w'=>e= .returned (.tuple #[.agg #[.int .i64 (Cal.ofD y m),.int .i64 (Cal.ofP y m)],.int .i64 (Cal.ofE y m)])/\Below w.heap.size w w':=by
 by_cases c:0<=y/\y<=10001
 ·obtain⟨c1,c2⟩:=c
  obtain⟨b1,b2⟩:=nM y
  obtain⟨b3,b4⟩:=nJ y c1 c2
  rcases(show m<1∨(1<=m/\m<=Cal.months y)∨(1<=m/\Cal.months y<m) by omega)with c|⟨m1,m2⟩|⟨m1,c⟩
  ·have HS:=zH y m c1 c2 (.inl c)
   rw [HS.1,HS.2.1,HS.2.2]
   clear HS
   go_enter Tryo.func161,Tryz.ntmps161
   go_wp2_with fail
   refine(uS y _ c1 c2).mono ?_
   rintro e w' ⟨rfl,rfl⟩
   go_wp2_with fail
   refine bodyPost_ret (v:= .tuple #[.agg #[.int .i64 0,.int .i64 0],.int .i64 3]) (by simp [results,Tryz.results161,go_sem]) rfl ⟨rfl,ba _ _⟩
  ·have HS:=Bj y m c1 c2 m1 m2
   rw [HS.1,HS.2.1,HS.2.2]
   clear HS
   obtain⟨m3,m4⟩:=hm
   go_enter Tryo.func161,Tryz.ntmps161
   go_wp2_with fail
   refine(uS y _ c1 c2).mono ?_
   rintro e w' ⟨rfl,rfl⟩
   go_wp2_with fail
   refine(Gg y _ c1 c2).mono ?_
   rintro e w' ⟨rfl,rfl⟩
   go_wp2_with fail
   refine(KH (Cal.before y+m-1) _ (by omega) (by omega)).mono ?_
   rintro e w1 ⟨rfl,hb1⟩
   obtain⟨hc1,hf1⟩:=aA hb1
   have hz1:=hb1.size
   try simp at hz1
   have hl1w:w.heap.size<w1.heap.size:=by omega
   have hm1w:w.heap.size<=w1.heap.size:=by omega
   have g1x0:w1.cell? ⟨w.heap.size,0,none⟩=some (.int .i64 0):=(hc1 _ _ (by simp;try omega)).trans (by first|assumption|simp [go_sem]|simp [go_sem, *])
   have g1x1:w1.cell? ⟨w.heap.size,1,none⟩=some (.int .i64 0):=(hc1 _ _ (by simp;try omega)).trans (by first|assumption|simp [go_sem]|simp [go_sem, *])
   go_wp2_with fail
   refine bodyPost_ret (v:= .tuple #[.agg #[.int .i64 (Cal.aW (Cal.before y+m-1)),.int .i64 (Cal.aV (Cal.before y+m-1))],.int .i64 0]) (by simp [results,Tryz.results161,go_sem,g1x0,g1x1]) rfl ⟨rfl, ?_⟩
   exact bs (bs (bt (ba _ _) hb1) (Nat.le_refl _) _) (Nat.le_refl _) _
  ·have HS:=zH y m c1 c2 (.inr c)
   rw [HS.1,HS.2.1,HS.2.2]
   clear HS
   go_enter Tryo.func161,Tryz.ntmps161
   go_wp2_with fail
   refine(uS y _ c1 c2).mono ?_
   rintro e w' ⟨rfl,rfl⟩
   go_wp2_with fail
   refine bodyPost_ret (v:= .tuple #[.agg #[.int .i64 0,.int .i64 0],.int .i64 3]) (by simp [results,Tryz.results161,go_sem]) rfl ⟨rfl,ba _ _⟩
 ·have HS:=BX y m (by omega)
  rw [HS.1,HS.2.1,HS.2.2]
  clear HS
  go_enter Tryo.func161,Tryz.ntmps161
  go_wp2_with fail
  refine(Tm y _ (by omega)).mono ?_
  rintro e w' ⟨rfl,rfl⟩
  go_wp2_with fail
  refine bodyPost_ret (v:= .tuple #[.agg #[.int .i64 0,.int .i64 0],.int .i64 2]) (by simp [results,Tryz.results161,go_sem]) rfl ⟨rfl,ba _ _⟩
end Go.Proofs.YthnjjcoahdhmnaaGreatDoor
namespace Go.Proofs.YthnjjcoahdhmnaaGreatDoor
open Go.ChangeShapes Go.WideShapes Go.ChangeAt Go.RowKit
theorem O6(y m n:Int)(w:World)(h0:0<=y)(h1:y<=10001)(m1:1<=m)(m2:m<=Cal.months y)(hn:Cal.before y+m-1=n):
  Calls Tryo.prog 176 #[.int .i64 y,.int .i64 m] w fun e w'=>e= .returned (.tuple #[.agg #[.int .i64 (Cal.aW n),.int .i64 (Cal.aV n)],.int .i64 0])/\Below w.heap.size w w':=by
 have:=Rv y m w (by obtain⟨b1,b2⟩:=nM y;exact⟨by omega,by omega⟩)
 rwa [(Bj y m h0 h1 m1 m2).1,(Bj y m h0 h1 m1 m2).2.1,(Bj y m h0 h1 m1 m2).2.2,hn]at this
theorem bdn{a b:World}(h:Below a.heap.size a b)(n:Nat):Below a.heap.size a (b.drewN n):=h.trans ⟨rfl,rfl,rfl,Nat.le_refl _,fun _ _=>rfl⟩
end Go.Proofs.YthnjjcoahdhmnaaGreatDoor
namespace Go.Proofs.YthnjjcoahdhmnaaGreatDoor
open Go.ChangeShapes Go.WideShapes Go.ChangeAt Go.RowKit
theorem Gj(d p:Int):Cal.delay d p true true=if 19440<=p∨(d % 7=1/\16789<=p)then(if(d % 7+1) % 7=0∨(d % 7+1) % 7=3∨(d % 7+1) % 7=5 then 2 else 1)else(if d % 7=0∨d % 7=3∨d % 7=5 then 1 else 0):=by
 unfold Cal.delay Cal.uW
 simp only [Bool.not_true,Bool.false_and,Bool.true_and,Bool.false_eq_true,if_false,Bool.and_eq_true,beq_iff_eq,decide_eq_true_eq]
 repeat' split
 all_goals omega
theorem EY(d p:Int):Cal.delay d p true false=if 19440<=p then(if(d % 7+1) % 7=0∨(d % 7+1) % 7=3∨(d % 7+1) % 7=5 then 2 else 1)else(if d % 7=0∨d % 7=3∨d % 7=5 then 1 else 0):=by
 unfold Cal.delay Cal.uW
 simp only [Bool.not_true,Bool.false_and,Bool.false_eq_true,if_false]
 repeat' split
 all_goals omega
theorem GH(d p:Int):Cal.delay d p false true=if 19440<=p∨(d % 7=2/\9924<=p)∨(d % 7=1/\16789<=p)then(if(d % 7+1) % 7=0∨(d % 7+1) % 7=3∨(d % 7+1) % 7=5 then 2 else 1)else(if d % 7=0∨d % 7=3∨d % 7=5 then 1 else 0):=by
 unfold Cal.delay Cal.uW
 simp only [Bool.not_false,Bool.true_and,Bool.and_eq_true,beq_iff_eq,decide_eq_true_eq]
 repeat' split
 all_goals omega
theorem Fy(d p:Int):Cal.delay d p false false=if 19440<=p∨(d % 7=2/\9924<=p)then(if(d % 7+1) % 7=0∨(d % 7+1) % 7=3∨(d % 7+1) % 7=5 then 2 else 1)else(if d % 7=0∨d % 7=3∨d % 7=5 then 1 else 0):=by
 unfold Cal.delay Cal.uW
 simp only [Bool.not_false,Bool.true_and,Bool.false_and,Bool.false_eq_true,if_false,Bool.and_eq_true,beq_iff_eq,decide_eq_true_eq]
 repeat' split
 all_goals omega
theorem Bg(d p:Int)(w:World)(hd:I64 d)(hp:I64 p):
  Calls Tryo.prog 177 #[.agg #[.int .i64 d,.int .i64 p],.bool true,.bool true] w fun e w'=>e= .returned (.int .i64 (Cal.delay d p true true))/\Below w.heap.size w w':=by
 have HW:=Lib.hid (fun w=>aT d w hd)
 have k0:0<=d % 7:=by omega
 have k1:d % 7<7:=by omega
 go_enter Tryo.func177,Tryz.ntmps177
 go_wp2_with fail
 refine(HW.out _).mono ?_
 rintro e w' ⟨rfl,rfl⟩
 go_wp2_with fail
 all_goals(refine(aT _ _ ⟨by omega,by omega⟩).mono ?_;rintro e w' ⟨rfl,rfl⟩;go_wp2_with fail)
 all_goals go_ret
 all_goals refine⟨jk ?_,ba _ _⟩
 all_goals go_light
 all_goals rw [Gj]
 all_goals(repeat' split)
 all_goals(try simp only [beq_iff_eq,beq_eq_false_iff_ne,ne_eq]at*)
 all_goals omega
theorem Ju(d p:Int)(w:World)(hd:I64 d)(hp:I64 p):
  Calls Tryo.prog 162 #[.agg #[.int .i64 d,.int .i64 p],.bool true,.bool true] w fun e w'=>e= .returned (.int .i64 (Cal.delay d p true true))/\Below w.heap.size w w':=by
 have HW:=Lib.hid (fun w=>bS d w)
 have k0:0<=d % 7:=by omega
 have k1:d % 7<7:=by omega
 go_enter Tryo.func162,Tryz.ntmps162
 go_wp2_with fail
 refine(HW.out _).mono ?_
 rintro e w' ⟨rfl,rfl⟩
 go_wp2_with fail
 all_goals go_ret
 all_goals refine⟨jk ?_,ba _ _⟩
 all_goals go_light
 all_goals rw [Gj]
 all_goals(repeat' split)
 all_goals(try simp only [beq_iff_eq,beq_eq_false_iff_ne,ne_eq]at*)
 all_goals omega
theorem zZ(d p:Int)(w:World)(hd:I64 d)(hp:I64 p):
  Calls Tryo.prog 177 #[.agg #[.int .i64 d,.int .i64 p],.bool true,.bool false] w fun e w'=>e= .returned (.int .i64 (Cal.delay d p true false))/\Below w.heap.size w w':=by
 have HW:=Lib.hid (fun w=>aT d w hd)
 have k0:0<=d % 7:=by omega
 have k1:d % 7<7:=by omega
 go_enter Tryo.func177,Tryz.ntmps177
 go_wp2_with fail
 refine(HW.out _).mono ?_
 rintro e w' ⟨rfl,rfl⟩
 go_wp2_with fail
 all_goals(refine(aT _ _ ⟨by omega,by omega⟩).mono ?_;rintro e w' ⟨rfl,rfl⟩;go_wp2_with fail)
 all_goals go_ret
 all_goals refine⟨jk ?_,ba _ _⟩
 all_goals go_light
 all_goals rw [EY]
 all_goals(repeat' split)
 all_goals(try simp only [beq_iff_eq,beq_eq_false_iff_ne,ne_eq]at*)
 all_goals omega
theorem IL(d p:Int)(w:World)(hd:I64 d)(hp:I64 p):
  Calls Tryo.prog 162 #[.agg #[.int .i64 d,.int .i64 p],.bool true,.bool false] w fun e w'=>e= .returned (.int .i64 (Cal.delay d p true false))/\Below w.heap.size w w':=by
 have HW:=Lib.hid (fun w=>bS d w)
 have k0:0<=d % 7:=by omega
 have k1:d % 7<7:=by omega
 go_enter Tryo.func162,Tryz.ntmps162
 go_wp2_with fail
 refine(HW.out _).mono ?_
 rintro e w' ⟨rfl,rfl⟩
 go_wp2_with fail
 all_goals go_ret
 all_goals refine⟨jk ?_,ba _ _⟩
 all_goals go_light
 all_goals rw [EY]
 all_goals(repeat' split)
 all_goals(try simp only [beq_iff_eq,beq_eq_false_iff_ne,ne_eq]at*)
 all_goals omega
theorem BH(d p:Int)(w:World)(hd:I64 d)(hp:I64 p):
  Calls Tryo.prog 177 #[.agg #[.int .i64 d,.int .i64 p],.bool false,.bool true] w fun e w'=>e= .returned (.int .i64 (Cal.delay d p false true))/\Below w.heap.size w w':=by
 have HW:=Lib.hid (fun w=>aT d w hd)
 have k0:0<=d % 7:=by omega
 have k1:d % 7<7:=by omega
 go_enter Tryo.func177,Tryz.ntmps177
 go_wp2_with fail
 refine(HW.out _).mono ?_
 rintro e w' ⟨rfl,rfl⟩
 go_wp2_with fail
 all_goals(refine(aT _ _ ⟨by omega,by omega⟩).mono ?_;rintro e w' ⟨rfl,rfl⟩;go_wp2_with fail)
 all_goals go_ret
 all_goals refine⟨jk ?_,ba _ _⟩
 all_goals go_light
 all_goals rw [GH]
 all_goals(repeat' split)
 all_goals(try simp only [beq_iff_eq,beq_eq_false_iff_ne,ne_eq]at*)
 all_goals omega
theorem Jd(d p:Int)(w:World)(hd:I64 d)(hp:I64 p):
  Calls Tryo.prog 162 #[.agg #[.int .i64 d,.int .i64 p],.bool false,.bool true] w fun e w'=>e= .returned (.int .i64 (Cal.delay d p false true))/\Below w.heap.size w w':=by
 have HW:=Lib.hid (fun w=>bS d w)
 have k0:0<=d % 7:=by omega
 have k1:d % 7<7:=by omega
 go_enter Tryo.func162,Tryz.ntmps162
 go_wp2_with fail
 refine(HW.out _).mono ?_
 rintro e w' ⟨rfl,rfl⟩
 go_wp2_with fail
 all_goals go_ret
 all_goals refine⟨jk ?_,ba _ _⟩
 all_goals go_light
 all_goals rw [GH]
 all_goals(repeat' split)
 all_goals(try simp only [beq_iff_eq,beq_eq_false_iff_ne,ne_eq]at*)
 all_goals omega
theorem Aa(d p:Int)(w:World)(hd:I64 d)(hp:I64 p):
  Calls Tryo.prog 177 #[.agg #[.int .i64 d,.int .i64 p],.bool false,.bool false] w fun e w'=>e= .returned (.int .i64 (Cal.delay d p false false))/\Below w.heap.size w w':=by
 have HW:=Lib.hid (fun w=>aT d w hd)
 have k0:0<=d % 7:=by omega
 have k1:d % 7<7:=by omega
 go_enter Tryo.func177,Tryz.ntmps177
 go_wp2_with fail
 refine(HW.out _).mono ?_
 rintro e w' ⟨rfl,rfl⟩
 go_wp2_with fail
 all_goals(refine(aT _ _ ⟨by omega,by omega⟩).mono ?_;rintro e w' ⟨rfl,rfl⟩;go_wp2_with fail)
 all_goals go_ret
 all_goals refine⟨jk ?_,ba _ _⟩
 all_goals go_light
 all_goals rw [Fy]
 all_goals(repeat' split)
 all_goals(try simp only [beq_iff_eq,beq_eq_false_iff_ne,ne_eq]at*)
 all_goals omega
theorem JE(d p:Int)(w:World)(hd:I64 d)(hp:I64 p):
  Calls Tryo.prog 162 #[.agg #[.int .i64 d,.int .i64 p],.bool false,.bool false] w fun e w'=>e= .returned (.int .i64 (Cal.delay d p false false))/\Below w.heap.size w w':=by
 have HW:=Lib.hid (fun w=>bS d w)
 have k0:0<=d % 7:=by omega
 have k1:d % 7<7:=by omega
 go_enter Tryo.func162,Tryz.ntmps162
 go_wp2_with fail
 refine(HW.out _).mono ?_
 rintro e w' ⟨rfl,rfl⟩
 go_wp2_with fail
 all_goals go_ret
 all_goals refine⟨jk ?_,ba _ _⟩
 all_goals go_light
 all_goals rw [Fy]
 all_goals(repeat' split)
 all_goals(try simp only [beq_iff_eq,beq_eq_false_iff_ne,ne_eq]at*)
 all_goals omega
theorem Jq(d p:Int)(lp af:Bool)(w:World)(hd:I64 d)(hp:I64 p):
  Calls Tryo.prog 177 #[.agg #[.int .i64 d,.int .i64 p],.bool lp,.bool af] w fun e w'=>e= .returned (.int .i64 (Cal.delay d p lp af))/\Below w.heap.size w w':=by
 cases lp <;> cases af
 ·exact Aa d p w hd hp
 ·exact BH d p w hd hp
 ·exact zZ d p w hd hp
 ·exact Bg d p w hd hp
theorem Tt(d p:Int)(lp af:Bool)(w:World)(hd:I64 d)(hp:I64 p):
  Calls Tryo.prog 162 #[.agg #[.int .i64 d,.int .i64 p],.bool lp,.bool af] w fun e w'=>e= .returned (.int .i64 (Cal.delay d p lp af))/\Below w.heap.size w w':=by
 cases lp <;> cases af
 ·exact JE d p w hd hp
 ·exact Jd d p w hd hp
 ·exact IL d p w hd hp
 ·exact Ju d p w hd hp
end Go.Proofs.YthnjjcoahdhmnaaGreatDoor
namespace Go.Proofs.YthnjjcoahdhmnaaGreatDoor
open Go.ChangeShapes Go.WideShapes Go.ChangeAt Go.RowKit
theorem bdw{a b:World}(h:Below a.heap.size a b):Below a.heap.size a b.drew:=h.drew
theorem MO(y:Int)(w:World)(h0:0<=y)(h1:y<=10001):
  Calls Tryo.prog 176 #[.int .i64 y,.int .i64 1] w fun e w'=>e= .returned (.tuple #[.agg #[.int .i64 (Cal.aW (Cal.before y)),.int .i64 (Cal.aV (Cal.before y))],.int .i64 0])/\Below w.heap.size w w':=
 O6 y 1 (Cal.before y) w h0 h1 (by omega) (by obtain⟨b1,b2⟩:=nM y;omega) (by omega)
theorem Ic(y:Int)(w:World)(h:y<0∨10001<y):
  Calls Tryo.prog 176 #[.int .i64 y,.int .i64 1] w fun e w'=>e= .returned (.tuple #[.agg #[.int .i64 0,.int .i64 0],.int .i64 2])/\Below w.heap.size w w':=by
 have:=Rv y 1 w ⟨by omega,by omega⟩
 rwa [(BX y 1 h).1,(BX y 1 h).2.1,(BX y 1 h).2.2]at this
theorem Rk(y:Int)(w:World)(h0:0<=y)(h1:y<=10001):
  Calls Tryo.prog 161 #[.int .i64 y,.int .i64 1] w fun e w'=>e= .returned (.tuple #[.agg #[.int .i64 (Cal.aW (Cal.before y)),.int .i64 (Cal.aV (Cal.before y))],.int .i64 0])/\Below w.heap.size w w':=by
 have:=Uz y 1 w ⟨by omega,by omega⟩
 obtain⟨b1,b2⟩:=nM y
 have k:=Bj y 1 h0 h1 (by omega) (by omega)
 rwa [k.1,k.2.1,k.2.2,show Cal.before y+1-1=Cal.before y by omega]at this
theorem Mw(y:Int)(w:World)(h:y<0∨10001<y):
  Calls Tryo.prog 161 #[.int .i64 y,.int .i64 1] w fun e w'=>e= .returned (.tuple #[.agg #[.int .i64 0,.int .i64 0],.int .i64 2])/\Below w.heap.size w w':=by
 have:=Uz y 1 w ⟨by omega,by omega⟩
 rwa [(BX y 1 h).1,(BX y 1 h).2.1,(BX y 1 h).2.2]at this
theorem Ar(y:Int)(w:World)(h0:0<=y)(h1:y<=10001):
  Calls Tryo.prog 102 #[.int .i64 (y-1)] w fun e w'=>(∃k:Int,e= .returned (.tuple #[.bool (Cal.leap (y-1)),.int .i64 k]))/\w=w':=by
 by_cases c:y=0
 ·have:=nC (y-1) w (by omega)
  rw [show Cal.leap (y-1)=false by subst c;decide]
  exact this.mono fun e w' h=>⟨⟨_,h.1⟩,h.2⟩
 ·exact(bR (y-1) w (by omega) (by omega)).mono fun e w' h=>⟨⟨_,h.1⟩,h.2⟩
theorem RB(y:Int)(h0:0<=y)(h1:y<=10001):Cal.kI y=Cal.aW (Cal.before y)+Cal.delay (Cal.aW (Cal.before y)) (Cal.aV (Cal.before y)) (Cal.leap y) (Cal.leap (y-1))/\Cal.bX y=0:=by
 rw [Cal.kI,Cal.bX,bP y h0 h1];exact⟨rfl,rfl⟩
theorem Fj(y:Int)(h:y<0∨10001<y):Cal.kI y=0/\Cal.bX y=2:=by rw [Cal.kI,Cal.bX,fQ y h];exact⟨rfl,rfl⟩
theorem Hg(d p:Int)(lp af:Bool):0<=Cal.delay d p lp af/\Cal.delay d p lp af<=2:=by
 cases lp <;> cases af
 ·rw [Fy];repeat' split
  all_goals omega
 ·rw [GH];repeat' split
  all_goals omega
 ·rw [EY];repeat' split
  all_goals omega
 ·rw [Gj];repeat' split
  all_goals omega
theorem I7(y:Int)(w:World)(hy:I64 y):
  Calls Tryo.prog 106 #[.int .i64 y] w fun e w'=>e= .returned (.tuple #[.int .i64 (Cal.kI y),.int .i64 (Cal.bX y)])/\Below w.heap.size w w':=by
 by_cases c:0<=y/\y<=10001
 ·obtain⟨c1,c2⟩:=c
  have HS:=Lib.hid (RB y c1 c2)
  obtain⟨b3,b4⟩:=nJ y c1 c2
  obtain⟨b5,b6⟩:=oN (Cal.before y) (by omega) (by omega)
  obtain⟨b7,b8⟩:=CJ (Cal.before y)
  obtain⟨b1,b2⟩:=Hg (Cal.aW (Cal.before y)) (Cal.aV (Cal.before y)) (Cal.leap y) (Cal.leap (y-1))
  have HD:=Lib.hid (fun w=>Jq (Cal.aW (Cal.before y)) (Cal.aV (Cal.before y)) (Cal.leap y) (Cal.leap (y-1)) w ⟨by omega,by omega⟩ ⟨by omega,by omega⟩)
  go_enter Tryo.func106,Tryz.ntmps106
  go_wp2_with fail
  refine(MO y _ c1 c2).mono ?_
  rintro e w1 ⟨rfl,hb1⟩
  obtain⟨hc1,hf1⟩:=aA hb1
  have hz1:=hb1.size
  try simp at hz1
  go_wp2_with fail
  refine(bR y _ c1 c2).mono ?_
  rintro e w' ⟨rfl,rfl⟩
  go_wp2_with fail
  refine(Ar y _ c1 c2).mono ?_
  rintro e w' ⟨⟨kk,rfl⟩,rfl⟩
  go_wp2_with fail
  go_region_held3 (fun x=>x.cell? ⟨w1.heap.size,0,none⟩=some (.int .i64 (Cal.aW (Cal.before y)))/\x.cell? ⟨w1.heap.size,1,none⟩=some (.int .i64 (Cal.aV (Cal.before y)))) (go_keep)
   (first|(go_at_call 177;refine(HD.out _).mono ?_;rintro e w2 ⟨rfl,hb2⟩;obtain⟨hc2,hf2⟩:=aA hb2))
  all_goals go_wp2_with fail
  all_goals go_ret2
  all_goals exact⟨aN ((IntWalk.i64_in _ ⟨by omega,by omega⟩).trans HS.out.1.symm) HS.out.2.symm,bt (bdw (baa hb1 _)) hb2⟩
 ·have HS:=Lib.hid (Fj y (by omega))
  go_enter Tryo.func106,Tryz.ntmps106
  go_wp2_with fail
  refine(Ic y _ (by omega)).mono ?_
  rintro e w1 ⟨rfl,hb1⟩
  obtain⟨hc1,hf1⟩:=aA hb1
  have hz1:=hb1.size
  try simp at hz1
  go_wp2_with fail
  go_ret2
  exact⟨aN HS.out.1.symm HS.out.2.symm,baa hb1 _⟩
theorem TM(y:Int)(w:World)(hy:I64 y):
  Calls Tryo.prog 91 #[.int .i64 y] w fun e w'=>e= .returned (.tuple #[.int .i64 (Cal.kI y),.int .i64 (Cal.bX y)])/\Below w.heap.size w w':=by
 by_cases c:0<=y/\y<=10001
 ·obtain⟨c1,c2⟩:=c
  have HS:=Lib.hid (RB y c1 c2)
  obtain⟨b3,b4⟩:=nJ y c1 c2
  obtain⟨b5,b6⟩:=oN (Cal.before y) (by omega) (by omega)
  obtain⟨b7,b8⟩:=CJ (Cal.before y)
  obtain⟨b1,b2⟩:=Hg (Cal.aW (Cal.before y)) (Cal.aV (Cal.before y)) (Cal.leap y) (Cal.leap (y-1))
  have HD:=Lib.hid (fun w=>Tt (Cal.aW (Cal.before y)) (Cal.aV (Cal.before y)) (Cal.leap y) (Cal.leap (y-1)) w ⟨by omega,by omega⟩ ⟨by omega,by omega⟩)
  have H1:=Lib.hid (fun w=>oG y w (by omega) (by omega))
  have H2:=Lib.hid (fun w=>oG (y-1) w (by omega) (by omega))
  go_enter Tryo.func91,Tryz.ntmps91
  go_wp2_with fail
  refine(Rk y _ c1 c2).mono ?_
  rintro e w1 ⟨rfl,hb1⟩
  obtain⟨hc1,hf1⟩:=aA hb1
  have hz1:=hb1.size
  try simp at hz1
  go_wp2_with fail
  have hw1:IntKind.i64.wrap (y-1)=y-1:=IntWalk.i64_in _ ⟨by omega,by omega⟩
  go_region_held3 (fun x=>x.cell? ⟨w1.heap.size,0,none⟩=some (.int .i64 (Cal.aW (Cal.before y)))/\x.cell? ⟨w1.heap.size,1,none⟩=some (.int .i64 (Cal.aV (Cal.before y)))) (go_keep)
   (first | (go_at_call 162;refine(HD.out _).mono ?_;rintro e w2 ⟨rfl,hb2⟩;obtain⟨hc2,hf2⟩:=aA hb2)
             |(go_at_call 117;first|(refine(H1.out _).mono ?_;rintro e w2 ⟨rfl,rfl⟩)|(refine(H2.out _).mono ?_;rintro e w2 ⟨rfl,rfl⟩)))
  all_goals go_wp2_with fail
  all_goals go_ret2
  all_goals exact⟨aN ((IntWalk.i64_in _ ⟨by omega,by omega⟩).trans HS.out.1.symm) HS.out.2.symm,bt (bdw (baa hb1 _)) hb2⟩
 ·have HS:=Lib.hid (Fj y (by omega))
  go_enter Tryo.func91,Tryz.ntmps91
  go_wp2_with fail
  refine(Mw y _ (by omega)).mono ?_
  rintro e w1 ⟨rfl,hb1⟩
  obtain⟨hc1,hf1⟩:=aA hb1
  have hz1:=hb1.size
  try simp at hz1
  go_wp2_with fail
  go_ret2
  exact⟨aN HS.out.1.symm HS.out.2.symm,baa hb1 _⟩
theorem iK(y:Int)(w:World)(h0:0<=y)(h1:y<=10001):
  Calls Tryo.prog 106 #[.int .i64 y] w fun e w'=>e= .returned (.tuple #[.int .i64 (Cal.first y),.int .i64 0])/\Below w.heap.size w w':=by
 have:=I7 y w ⟨by omega,by omega⟩
 rwa [Cal.kI,Cal.bX,bP y h0 h1,if_pos rfl,if_pos rfl]at this
theorem dn(y:Int)(w:World)(h0:0<=y)(h1:y<=10001):
  Calls Tryo.prog 91 #[.int .i64 y] w fun e w'=>e= .returned (.tuple #[.int .i64 (Cal.first y),.int .i64 0])/\Below w.heap.size w w':=by
 have:=TM y w ⟨by omega,by omega⟩
 rwa [Cal.kI,Cal.bX,bP y h0 h1,if_pos rfl,if_pos rfl]at this
theorem bF(y:Int)(h0:0<=y)(h1:y<=10001): -7300000<=Cal.first y/\Cal.first y<=4600002:=by
 obtain⟨b3,b4⟩:=nJ y h0 h1
 obtain⟨b5,b6⟩:=oN (Cal.before y) (by omega) (by omega)
 obtain⟨b1,b2⟩:=Hg (Cal.aW (Cal.before y)) (Cal.aV (Cal.before y)) (Cal.leap y) (Cal.leap (y-1))
 unfold Cal.first
 omega
end Go.Proofs.YthnjjcoahdhmnaaGreatDoor
