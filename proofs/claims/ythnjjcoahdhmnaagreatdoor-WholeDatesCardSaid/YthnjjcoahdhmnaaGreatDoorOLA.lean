import Derived.Shelf.Bits.Mul64
import Derived.Test.YthnjjcoahdhmnaaGreatDoorOPo
import Derived.WalkKit
import Derived.ProofKit
import Derived.Deep.Light
import Derived.Lib.Hide
import Derived.Below
import Derived.Deep.QuietTactic
import Derived.BigQuiet
import Derived.Deep.RegionHeld3
set_option maxHeartbeats 8000000
set_option maxRecDepth 100000
set_option linter.unusedVariables false
namespace Go.Proofs.YthnjjcoahdhmnaaGreatDoor
namespace Cal
def fits(n:Int):Bool:=decide (-9223372036854775808<=n)&&decide (n<=9223372036854775807)
def Dq(a b:Int):Int:=if fits (a+b)then a+b else 0
def CX(a b:Int):Int:=if fits (a+b)then 0 else 6
def Gl(a b:Int):Int:=if fits (a*b)then a*b else 0
def Gd(a b:Int):Int:=if fits (a*b)then 0 else 6
def JD(a b:Int):Int:=if b<=0 then 0 else a / b
def LG(b:Int):Int:=if b<=0 then 1 else 0
def JL(a b:Int):Int:=if b<=0 then 0 else a % b
def force{α:Type}(n:Nat)(f:Nat->α):α:=match n with|0=>f 0|k+1=>f (Nat.succ k)
theorem force_eq{α:Type}(n:Nat)(f:Nat->α):force n f=f n:=by cases n <;> rfl
def mR(f:Nat->Bool):Nat->Nat->Bool
 |0,lo=>f lo
 |k+1,lo=>and (mR f k lo) (force (Nat.add lo (Nat.pow 2 k)) (mR f k))
theorem lu(f:Nat->Bool)(k:Nat):∀lo,mR f k lo=true->∀n,lo<=n->n<lo+2 ^ k->f n=true:=by
 induction k with
 | zero => intro lo h n h1 h2;simp at h2;have:n=lo:=by omega
           subst this;exact h
 |succ k ih=>
  intro lo h n h1 h2
  simp only [mR,force_eq]at h
  rw [Bool.and_eq_true]at h
  by_cases hn:n<lo+2 ^ k
  ·exact ih lo h.1 n h1 hn
  ·exact ih (lo+2 ^ k) h.2 n (by omega) (by rw [Nat.pow_succ]at h2;omega)
theorem KU(a b:Int)(hb:0<b)(h:a.tmod b<0):a.tdiv b-1=a / b/\a.tmod b+b=a % b:=by
 have h1:=Int.tmod_add_mul_tdiv a b
 have h2:=Int.lt_tmod_of_pos a hb
 have h3:=(Int.ediv_emod_unique (a:=a) (r:=a.tmod b+b) (q:=a.tdiv b-1) hb).2 ⟨by rw [Int.mul_sub];omega,by omega,by omega⟩
 exact⟨h3.1.symm,h3.2.symm⟩
theorem He(a b:Int)(hb:0<b)(h:0<=a.tmod b):a.tdiv b=a / b/\a.tmod b=a % b:=by
 have h1:=Int.tmod_add_mul_tdiv a b
 have h2:=Int.tmod_lt_of_pos a hb
 have h3:=(Int.ediv_emod_unique (a:=a) (r:=a.tmod b) (q:=a.tdiv b) hb).2 ⟨by omega,h,h2⟩
 exact⟨h3.1.symm,h3.2.symm⟩
def leap(y:Int):Bool:=decide ((7*y+1) % 19<7)
def months(y:Int):Int:=if leap y then 13 else 12
def before(y:Int):Int:=(235*y-234) / 19
def Aa(y:Int):Bool:=decide (0<=y)&&decide (y<=10001)
def zF(y:Int):Bool:=Aa y&&leap y
def dR(y:Int):Int:=if Aa y then 0 else 2
def mV(y:Int):Int:=if Aa y then months y else 0
def yE(y:Int):Int:=if Aa y then before y else 0
def bM(n:Int):Int:=(5604+765433*n) / 25920-1373427
def bL(n:Int):Int:=(5604+765433*n) % 25920
def uQ(n:Int):Bool:=decide (-200000<=n)&&decide (n<=200000)
def L6(n:Int):Int:=if uQ n then 0 else 2
def LX(n:Int):Int:=if uQ n then bM n else 0
def LK(n:Int):Int:=if uQ n then bL n else 0
def Oi(y m:Int):Bool:=decide (1<=m)&&decide (m<=months y)
def ofE(y m:Int):Int:=if Aa y then(if Oi y m then 0 else 3)else 2
def ofD(y m:Int):Int:=if Aa y&&Oi y m then bM (before y+m-1)else 0
def ofP(y m:Int):Int:=if Aa y&&Oi y m then bL (before y+m-1)else 0
def uX(w p:Int)(leap after:Bool):Int:=
 if 19440<=p then 1 else if(!leap&&(w==2)&&decide (9924<=p))then 1 else if(after&&(w==1)&&decide (16789<=p))then 1 else 0
def delay(d p:Int)(leap after:Bool):Int:=
 let n:=uX (d % 7) p leap after
 if(d % 7+n) % 7=0∨(d % 7+n) % 7=3∨(d % 7+n) % 7=5 then n+1 else n
def first(y:Int):Int:=bM (before y)+delay (bM (before y)) (bL (before y)) (leap y) (leap (y-1))
def nK(y:Int):Int:=if Aa y then first y else 0
def iM(m:Int):Int:=29*m+(12084+13753*m) / 25920
def nearly(y:Int):Int:=let d:=iM (before y);if(3*d+3) % 7<3 then d+1 else d
def AQ(y:Int):Bool:=decide (-1<=y)&&decide (y<=10002)
def ME(y:Int):Int:=if AQ y then 0 else 2
def Li(y:Int):Int:=if AQ y then nearly y else 0
def Jg(y:Int):Int:=
 if nearly (y+1)-nearly y=356 then nearly y+2-1373427 else if nearly y-nearly (y-1)=382 then nearly y+1-1373427 else nearly y-1373427
def lpN(y:Nat):Bool:=Nat.blt (Nat.mod (Nat.add (Nat.mul 7 y) 1) 19) 7
def pQ(y:Nat):Nat:=Nat.div (Nat.sub (Nat.mul 235 y) 234) 19
def Aw(w p:Nat)(lp af:Bool):Nat:=cond (Nat.ble 19440 p) 1 (cond (and (not lp) (and (Nat.beq w 2) (Nat.ble 9924 p))) 1 (cond (and af (and (Nat.beq w 1) (Nat.ble 16789 p))) 1 0))
def Qh(w:Nat):Bool:=or (Nat.beq w 0) (or (Nat.beq w 3) (Nat.beq w 5))
def ql{α:Type}(y:Nat)(k:Nat->α):α:=
 force (pQ y) fun mo=>force (Nat.add 5604 (Nat.mul 765433 mo)) fun mm=>force (Nat.div mm 25920) fun d=>force (Nat.mod mm 25920) fun p=>
 force (Nat.mod (Nat.add d 1) 7) fun w=>force (Aw w p (lpN y) (lpN (Nat.sub y 1))) fun n=>force (Nat.mod (Nat.add w n) 7) fun w2=>
 force (Nat.add d (Nat.add n (cond (Qh w2) 1 0))) k
def CU{α:Type}(y:Nat)(k:Nat->α):α:=
 force (pQ y) fun mo=>force (Nat.add (Nat.mul 29 mo) (Nat.div (Nat.add 12084 (Nat.mul 13753 mo)) 25920)) fun d=>
 force (cond (Nat.blt (Nat.mod (Nat.add (Nat.mul 3 d) 3) 7) 3) (Nat.add d 1) d) k
def dX(y:Nat):Nat:=ql y id
def pE(y:Nat):Nat:=CU y id
theorem Hw{α:Type}(y:Nat)(k:Nat->α):ql y k=k (dX y):=by simp only [dX,ql,force_eq,id]
theorem TT{α:Type}(y:Nat)(k:Nat->α):CU y k=k (pE y):=by simp only [pE,CU,force_eq,id]
def okN(y:Nat):Bool:=
 ql y fun a=>ql (Nat.succ y) fun b=>force (cond (lpN y) (Nat.sub (Nat.sub b a) 30) (Nat.sub b a)) fun n=>force (Nat.mod (Nat.add a 1) 7) fun w=>
 CU (Nat.pred y) fun n0=>CU y fun n1=>CU (Nat.succ y) fun n2=>
 and (or (Nat.beq n 353) (or (Nat.beq n 354) (Nat.beq n 355))) (and (not (Qh w)) (Nat.beq a (cond (Nat.beq (Nat.sub n2 n1) 356) (Nat.add n1 2) (cond (Nat.beq (Nat.sub n1 n0) 382) (Nat.add n1 1) n1))))
theorem okN1:mR okN 13 2=true:=by decide+kernel
theorem okN2:mR okN 11 8194=true:=by decide+kernel
theorem U6(y:Nat)(h0:2<=y)(h1:y<=10001):okN y=true:=by
 by_cases h:y<8194
 ·exact lu _ _ _ okN1 y h0 (by omega)
 ·exact lu _ _ _ okN2 y (by omega) (by omega)
theorem Kw(y:Nat)(h0:2<=y)(h1:y<=10001):
  ((dX (y+1)-dX y-(if lpN y then 30 else 0)=353∨dX (y+1)-dX y-(if lpN y then 30 else 0)=354∨dX (y+1)-dX y-(if lpN y then 30 else 0)=355)/\
   ((dX y+1) % 7≠0/\(dX y+1) % 7≠3/\(dX y+1) % 7≠5))/\
   dX y=if pE (y+1)-pE y=356 then pE y+2 else if pE y-pE (y-1)=382 then pE y+1 else pE y:=by
 have h:=U6 y h0 h1
 unfold okN at h
 simp only [Hw,TT,force_eq]at h
 rw [Bool.and_eq_true,Bool.and_eq_true]at h
 obtain⟨h1,h2,h3⟩:=h
 refine⟨⟨?_, ?_⟩, ?_⟩
 ·simp only [Bool.or_eq_true,Nat.beq_eq]at h1
  cases hl:lpN y <;> rw [hl]at h1 <;> simpa using h1
 ·simp only [Qh,Bool.not_eq_true',Bool.or_eq_false_iff]at h2
  exact⟨Nat.ne_of_beq_eq_false h2.1,Nat.ne_of_beq_eq_false h2.2.1,Nat.ne_of_beq_eq_false h2.2.2⟩
 ·rw [Nat.beq_eq]at h3
  simp only [Bool.cond_eq_ite,Nat.beq_eq]at h3
  exact h3
theorem KQ(a b c m:Nat):(((a+b*m) / c:Nat):Int)=((a:Int)+b*m) / c:=by rw [Int.natCast_ediv,Int.natCast_add,Int.natCast_mul]
theorem Tt(a b c m:Nat):(((a+b*m) % c:Nat):Int)=((a:Int)+b*m) % c:=by rw [Int.natCast_emod,Int.natCast_add,Int.natCast_mul]
theorem Hq(a b c m:Nat):(((b*m+a) % c:Nat):Int)=((b:Int)*m+a) % c:=by rw [Int.natCast_emod,Int.natCast_add,Int.natCast_mul]
theorem Eh(y:Nat):leap (y:Int)=lpN y:=by
 rw [Bool.eq_iff_iff]
 unfold leap lpN
 rw [decide_eq_true_eq,Nat.blt_eq]
 show(7*(y:Int)+1) % 19<7↔(7*y+1) % 19<7
 have e:(((7*y+1) % 19:Nat):Int)=(7*(y:Int)+1) % 19:=Hq 1 7 19 y
 omega
theorem Pz(y:Nat)(h:1<=y):before (y:Int)=(pQ y:Int):=by
 show(235*(y:Int)-234) / 19=(((235*y-234) / 19:Nat):Int)
 omega
theorem QT(w p:Nat)(lp af:Bool):uX (w:Int) (p:Int) lp af=(Aw w p lp af:Int):=by
 have e1:Nat.ble 19440 p=decide (19440<=(p:Int)):=by rw [Bool.eq_iff_iff,Nat.ble_eq,decide_eq_true_eq];omega
 have e2:Nat.ble 9924 p=decide (9924<=(p:Int)):=by rw [Bool.eq_iff_iff,Nat.ble_eq,decide_eq_true_eq];omega
 have e3:Nat.ble 16789 p=decide (16789<=(p:Int)):=by rw [Bool.eq_iff_iff,Nat.ble_eq,decide_eq_true_eq];omega
 have e4:Nat.beq w 2=((w:Int)==2):=by rw [Bool.eq_iff_iff,Nat.beq_eq,beq_iff_eq];omega
 have e5:Nat.beq w 1=((w:Int)==1):=by rw [Bool.eq_iff_iff,Nat.beq_eq,beq_iff_eq];omega
 unfold uX Aw
 rw [e1,e2,e3,e4,e5]
 simp only [Bool.cond_eq_ite,decide_eq_true_eq,Bool.and_assoc]
 split
 ·rfl
 ·split
  ·rfl
  ·split <;> rfl
theorem Uy(w:Nat):Qh w=decide (w=0∨w=3∨w=5):=by
 rw [Bool.eq_iff_iff]
 unfold Qh
 simp only [Bool.or_eq_true,Nat.beq_eq,decide_eq_true_eq]
theorem kg(y:Nat)(h:2<=y):first (y:Int)=(dX y:Int)-1373427:=by
 have hn:dX y=(5604+765433*pQ y) / 25920+(Aw (((5604+765433*pQ y) / 25920+1) % 7) ((5604+765433*pQ y) % 25920) (lpN y) (lpN (y-1))+
   cond (Qh ((((5604+765433*pQ y) / 25920+1) % 7+Aw (((5604+765433*pQ y) / 25920+1) % 7) ((5604+765433*pQ y) % 25920) (lpN y) (lpN (y-1))) % 7)) 1 0):=by
  simp only [dX,ql,force_eq,id]
  rfl
 rw [hn]
 unfold first delay
 rw [Pz y (by omega),Eh y,show((y:Int)-1)=((y-1:Nat):Int) by omega,Eh (y-1)]
 generalize pQ y=m
 generalize lpN y=lp
 generalize lpN (y-1)=af
 have hd:bM (m:Int)=(((5604+765433*m) / 25920:Nat):Int)-1373427:=by unfold bM;rw [show(((5604+765433*m) / 25920:Nat):Int)=(5604+765433*(m:Int)) / 25920 from KQ 5604 765433 25920 m]
 have hp:bL (m:Int)=(((5604+765433*m) % 25920:Nat):Int):=by(exact(Tt 5604 765433 25920 m).symm)
 have hw:bM (m:Int) % 7=((((5604+765433*m) / 25920+1) % 7:Nat):Int):=by
  rw [hd]
  generalize (5604+765433*m) / 25920=d
  omega
 simp only [hw,hp,QT]
 rw [hd]
 generalize (5604+765433*m) % 25920=p
 generalize (5604+765433*m) / 25920=d
 generalize Aw ((d+1) % 7) p lp af=n
 rw [Uy,Bool.cond_eq_ite]
 simp only [decide_eq_true_eq]
 split <;> split <;> omega
theorem ED(y:Nat)(h:1<=y):nearly (y:Int)=(pE y:Int):=by
 have hn:pE y=cond (Nat.blt ((3*(29*pQ y+(12084+13753*pQ y) / 25920)+3) % 7) 3) (29*pQ y+(12084+13753*pQ y) / 25920+1) (29*pQ y+(12084+13753*pQ y) / 25920):=by
  simp only [pE,CU,force_eq,id]
  rfl
 rw [hn]
 unfold nearly iM
 rw [Pz y h]
 generalize pQ y=m
 have e0:(((12084+13753*m) / 25920:Nat):Int)=(12084+13753*(m:Int)) / 25920:=KQ 12084 13753 25920 m
 have e:(29*(m:Int)+(12084+13753*(m:Int)) / 25920)=((29*m+(12084+13753*m) / 25920:Nat):Int):=by
  rw [←e0];omega
 simp only [e]
 generalize 29*m+(12084+13753*m) / 25920=d
 have e2:(((3*d+3) % 7:Nat):Int)=(3*(d:Int)+3) % 7:=Hq 3 3 7 d
 simp only [Bool.cond_eq_ite,Nat.blt_eq]
 split <;> split <;> omega
theorem Aj(y:Int)(h0:0<=y)(h1:y<=10000):
  first (y+1)-first y-(if leap y then 30 else 0)=353∨first (y+1)-first y-(if leap y then 30 else 0)=354∨first (y+1)-first y-(if leap y then 30 else 0)=355:=by
 by_cases h2:y<2
 ·have:y=0∨y=1:=by omega
  rcases this with rfl|rfl <;> decide+kernel
 ·obtain⟨n,rfl⟩:=Int.eq_ofNat_of_zero_le h0
  have h:=(Kw n (by omega) (by omega)).1.1
  have e:((n:Int)+1)=((n+1:Nat):Int):=by omega
  rw [e,kg n (by omega),kg (n+1) (by omega),Eh n]
  cases hl:lpN n <;> rw [hl]at h <;> simp only [Bool.false_eq_true,if_true,if_false]at h⊢ <;> omega
theorem Qy(y:Int)(h0:0<=y)(h1:y<=10001):Jg y=first y:=by
 by_cases h2:y<2
 ·have:y=0∨y=1:=by omega
  rcases this with rfl|rfl <;> decide+kernel
 ·obtain⟨n,rfl⟩:=Int.eq_ofNat_of_zero_le h0
  have h:=(Kw n (by omega) (by omega)).2
  have e:((n:Int)+1)=((n+1:Nat):Int):=by omega
  have e':((n:Int)-1)=((n-1:Nat):Int):=by omega
  unfold Jg
  rw [e,e',kg n (by omega),ED n (by omega),ED (n+1) (by omega),ED (n-1) (by omega)]
  split at h
  ·rw [h,if_pos (by omega)];omega
  ·rw [if_neg (by omega)]
   split at h
   ·rw [h,if_pos (by omega)];omega
   ·rw [h,if_neg (by omega)]
end Cal
end Go.Proofs.YthnjjcoahdhmnaaGreatDoor
namespace Go.Proofs.YthnjjcoahdhmnaaGreatDoor
namespace Cal
def Cu(d h p:Int):Bool:=fits (d*25920)&&fits (h*1080)&&fits (d*25920+h*1080)&&fits (d*25920+h*1080+p)
def Ed(d h p:Int):Int:=if Cu d h p then d*25920+h*1080+p else 0
def EZ(d h p:Int):Int:=if Cu d h p then 0 else 6
theorem Dw(d h p:Int)(hx:(fits (d*25920)&&fits (h*1080)&&fits (d*25920+h*1080))=false):Ed d h p=0/\EZ d h p=6:=by
 unfold Ed EZ Cu
 rw [hx]
 exact⟨rfl,rfl⟩
theorem EA(d h p:Int)(h1:fits (d*25920)=true)(h2:fits (h*1080)=true)(h3:fits (d*25920+h*1080)=true):
  Ed d h p=Dq (d*25920+h*1080) p/\EZ d h p=CX (d*25920+h*1080) p:=by
 unfold Ed EZ Cu Dq CX
 rw [h1,h2,h3]
 exact⟨rfl,rfl⟩
end Cal
end Go.Proofs.YthnjjcoahdhmnaaGreatDoor
namespace Go.Proofs
open Go.Shelf
namespace YthnjjcoahdhmnaaGreatDoor
def K6:Go.Shelf.Ren:=⟨fun|264=>316|n=>n,fun|53=>237|46=>197|n=>n,fun|n=>n⟩
theorem Vi:Go.Proofs.Lays.n264 Tryo.prog K6:={
 mixed:=by kernel_rfl
 f264:=Tryo.func316.trans (congrArg some (by kernel_rfl))
 t46:=(aU Tryz.underlying197)
 a46:=(aM (Tryo.isAgg 197) Tryz.isAgg197)
 z46:=(aM (Tryo.sizeOf 197) Tryz.sizeOf197)
 v46:=(aM (Tryo.zeroValue 197) Tryz.zeroValue197)
 t53:=(aU Tryz.underlying237)
 a53:=(aM (Tryo.isAgg 237) Tryz.isAgg237)
 z53:=(aM (Tryo.sizeOf 237) Tryz.sizeOf237)
 v53:=(aM (Tryo.zeroValue 237) Tryz.zeroValue237)}
open Go.RowKit Go.Lib in
theorem bits_Mul64(x y:Nat)(hx:x<18446744073709551616)(hy:y<18446744073709551616)(w:World):
  Calls Tryo.prog 316 #[.int .u64 x,.int .u64 y] w fun e w'=>e= .returned (.tuple #[.int .u64 ((x*y / 18446744073709551616:Nat):Int),.int .u64 ((x*y % 18446744073709551616:Nat):Int)])/\w'=w:=Any.bits_Mul64 Vi x y hx hy w
end YthnjjcoahdhmnaaGreatDoor
end Go.Proofs
namespace Go.Proofs.YthnjjcoahdhmnaaGreatDoor
open Go.ChangeShapes Go.WideShapes Go.ChangeAt Go.RowKit
def I64(a:Int):Prop:= -9223372036854775808<=a/\a<=9223372036854775807
theorem GJ{a b:Int}(h:a=b):Ending.returned (.int .i64 a)= .returned (.int .i64 b):=by rw [h]
theorem y8{a b:Bool}(h:a=b):Ending.returned (.bool a)= .returned (.bool b):=by rw [h]
theorem aS{a b c d:Int}(h:a=b)(h':c=d):Ending.returned (.tuple #[.int .i64 a,.int .i64 c])= .returned (.tuple #[.int .i64 b,.int .i64 d]):=by rw [h,h']
theorem SY{a b:Bool}{c d:Int}(h:a=b)(h':c=d):Ending.returned (.tuple #[.bool a,.int .i64 c])= .returned (.tuple #[.bool b,.int .i64 d]):=by rw [h,h']
theorem Px(a b:Int)(ha:I64 a)(hb:0<b):I64 (a / b)/\(a.tmod b<0->I64 (a / b+1)):=by
 obtain⟨h1,h2⟩:=ha
 have k1: -9223372036854775808<=a / b:=by
  rw [Int.le_ediv_iff_mul_le hb]
  omega
 have k2:a / b<9223372036854775808:=by
  rw [Int.ediv_lt_iff_lt_mul hb]
  omega
 refine⟨⟨k1,by omega⟩,fun h=> ?_⟩
 have k3:a / b<0:=by
  rw [Int.ediv_lt_iff_lt_mul hb]
  have hn:a<0:=by
   by_cases h0:0<=a
   ·have:=Int.tmod_nonneg (b:=b) h0;omega
   ·omega
  omega
 exact⟨by omega,by omega⟩
theorem VW(a b:Int)(ha:I64 a)(hb:0<b)(h:a.tmod b<0):wrap64 (wrap64 (a.tdiv b)-1)=Cal.JD a b:=by
 obtain⟨e1,_⟩:=Cal.KU a b hb h
 obtain⟨d1,d2⟩:=Px a b ha hb
 have d2:=d2 h
 rw [Cal.JD,if_neg (by omega),show a.tdiv b=a / b+1 by omega,IntWalk.wrap64_in _ d2,show a / b+1-1=a / b by omega,IntWalk.wrap64_in _ d1]
theorem Wt(a b:Int)(ha:I64 a)(hb:0<b)(h:0<=a.tmod b):wrap64 (a.tdiv b)=Cal.JD a b:=by
 obtain⟨e1,_⟩:=Cal.He a b hb h
 rw [Cal.JD,if_neg (by omega),e1,IntWalk.wrap64_in _ (Px a b ha hb).1]
theorem WH(a b:Int)(hb:0<b)(hb2:I64 b):I64 (a % b):=by
 have h1:=Int.emod_nonneg a (show b≠0 by omega)
 have h2:=Int.emod_lt_of_pos a hb
 obtain⟨h3,h4⟩:=hb2
 exact⟨by omega,by omega⟩
theorem VO(a b:Int)(hb2:I64 b)(hb:0<b)(h:a.tmod b<0):wrap64 (a.tmod b+b)=Cal.JL a b:=by
 obtain⟨_,e1⟩:=Cal.KU a b hb h
 rw [Cal.JL,if_neg (by omega),e1,IntWalk.wrap64_in _ (WH a b hb hb2)]
theorem VL(a b:Int)(hb2:I64 b)(hb:0<b)(h:0<=a.tmod b):a.tmod b=Cal.JL a b:=by
 obtain⟨_,e1⟩:=Cal.He a b hb h
 rw [Cal.JL,if_neg (by omega),e1]
theorem VJ(a b:Int)(h:b<=0):0=Cal.JD a b:=by rw [Cal.JD,if_pos h]
theorem V7(a b:Int)(h:b<=0):0=Cal.JL a b:=by rw [Cal.JL,if_pos h]
theorem PD(b:Int)(h:b<=0):1=Cal.LG b:=by rw [Cal.LG,if_pos h]
theorem CG(b:Int)(h:0<b):0=Cal.LG b:=by rw [Cal.LG,if_neg (by omega)]
theorem nM{n:Int}(h1: -9223372036854775808<=n)(h2:n<=9223372036854775807):Cal.fits n=true:=by simp [Cal.fits,h1,h2]
theorem Cr{n:Int}(h:n< -9223372036854775808∨9223372036854775807<n):Cal.fits n=false:=by
 rw [Bool.eq_false_iff];intro h';simp only [Cal.fits,Bool.and_eq_true,decide_eq_true_eq]at h';omega
theorem Ry(a b:Int)(h1: -9223372036854775808<=a+b)(h2:a+b<=9223372036854775807):a+b=Cal.Dq a b:=by rw [Cal.Dq,if_pos (nM h1 h2)]
theorem Pn(a b:Int)(h1: -9223372036854775808<=a+b)(h2:a+b<=9223372036854775807):0=Cal.CX a b:=by rw [Cal.CX,if_pos (nM h1 h2)]
theorem WQ(a b:Int)(h:a+b< -9223372036854775808∨9223372036854775807<a+b):0=Cal.Dq a b:=by rw [Cal.Dq,if_neg (by rw [Cr h];decide)]
theorem UZ(a b:Int)(h:a+b< -9223372036854775808∨9223372036854775807<a+b):6=Cal.CX a b:=by rw [Cal.CX,if_neg (by rw [Cr h];decide)]
theorem Rf(a b:Int)(w:World)(ha:I64 a)(hb:I64 b):
  Calls Tryo.prog 207 #[.int .i64 a,.int .i64 b] w fun e w'=>e= .returned (.tuple #[.int .i64 (Cal.JD a b),.int .i64 (Cal.LG b)])/\w=w':=by
 go_enter Tryo.func207,Tryz.ntmps207
 go_wp2
 all_goals go_ret2
 ·exact⟨aS (VJ _ _ ‹_›) (PD _ ‹_›),rfl⟩
 ·exact⟨aS (VW _ _ ha ‹_› ‹_›) (CG _ ‹_›),rfl⟩
 ·exact⟨aS (Wt _ _ ha ‹_› ‹_›) (CG _ ‹_›),rfl⟩
theorem QS(a b:Int)(w:World)(ha:I64 a)(hb:I64 b):
  Calls Tryo.prog 83 #[.int .i64 a,.int .i64 b] w fun e w'=>e= .returned (.tuple #[.int .i64 (Cal.JL a b),.int .i64 (Cal.LG b)])/\w=w':=by
 go_enter Tryo.func83,Tryz.ntmps83
 go_wp2
 all_goals go_ret2
 ·exact⟨aS (V7 _ _ ‹_›) (PD _ ‹_›),rfl⟩
 ·exact⟨aS (VO _ _ hb ‹_› ‹_›) (CG _ ‹_›),rfl⟩
 ·exact⟨aS (VL _ _ hb ‹_› ‹_›) (CG _ ‹_›),rfl⟩
theorem Hr(x y:Int)(hx:0<=x)(hy:0<=y)(w:World):
  (callFunc 318 #[.int .u64 x,.int .u64 y,.int .u64 0]).run Tryo.prog w= .ok (.value (.tuple #[.int .u64 ((x+y) % 18446744073709551616),.int .u64 ((x+y) / 18446744073709551616)])) w:=by
 have h:=run_add64 (P:=Tryo.prog) x y 0 hx hy (by omega) (by omega) w
 rw [show x+y+0=x+y by omega]at h
 rw [run_callFunc_extern Tryo.func318 (by kernel_rfl) (by kernel_rfl) (by kernel_rfl) (e:=add64Entry) (by kernel_rfl),h]
 rfl
theorem zB(a b:Int):wrap64 ((IntKind.u64.wrap a+IntKind.u64.wrap b) % 18446744073709551616)=wrap64 (a+b):=by
 rw [IntKind.wrap_u64,IntKind.wrap_u64]
 unfold wrap64
 omega
theorem RX(a b:Int)(ha:I64 a)(hb:I64 b)(h1:a<0↔b<0)(h2:(!decide (wrap64 ((IntKind.u64.wrap a+IntKind.u64.wrap b) % 18446744073709551616)<0)==decide (b<0))=true):
  a+b< -9223372036854775808∨9223372036854775807<a+b:=by
 obtain⟨ha1,ha2⟩:=ha
 obtain⟨hb1,hb2⟩:=hb
 rw [zB]at h2
 unfold wrap64 at h2
 by_cases c1:(a+b+9223372036854775808) % 18446744073709551616-9223372036854775808<0 <;> by_cases c2:b<0 <;> simp [c1,c2]at h2 <;> omega
theorem RJ(a b:Int)(ha:I64 a)(hb:I64 b)(h1:a<0↔b<0)(h2:(!decide (wrap64 ((IntKind.u64.wrap a+IntKind.u64.wrap b) % 18446744073709551616)<0)==decide (b<0))=false):
  -9223372036854775808<=a+b/\a+b<=9223372036854775807:=by
 obtain⟨ha1,ha2⟩:=ha
 obtain⟨hb1,hb2⟩:=hb
 rw [zB]at h2
 unfold wrap64 at h2
 by_cases c1:(a+b+9223372036854775808) % 18446744073709551616-9223372036854775808<0 <;> by_cases c2:b<0 <;> simp [c1,c2]at h2 <;> omega
theorem Af(a b:Int)(w:World)(ha:I64 a)(hb:I64 b):
  Calls Tryo.prog 307 #[.int .i64 a,.int .i64 b] w fun e w'=>e= .returned (.tuple #[.int .i64 (Cal.Dq a b),.int .i64 (Cal.CX a b)])/\w=w':=by
 obtain⟨ha1,ha2⟩:=ha
 obtain⟨hb1,hb2⟩:=hb
 go_enter Tryo.func307,Tryz.ntmps307
 have k1:0<=IntKind.u64.wrap a:=by rw [IntKind.wrap_u64];omega
 have k2:0<=IntKind.u64.wrap b:=by rw [IntKind.wrap_u64];omega
 go_wp2_with (simp only [Hr _ _ k1 k2])
 all_goals go_ret2
 ·have h:=RX a b ⟨ha1,ha2⟩ ⟨hb1,hb2⟩ ‹_› ‹_›
  exact⟨aS (WQ _ _ h) (UZ _ _ h),rfl⟩
 ·have h:=RJ a b ⟨ha1,ha2⟩ ⟨hb1,hb2⟩ ‹_› ‹_›
  exact⟨aS (by rw [zB,IntWalk.wrap64_in _ h];exact Ry _ _ h.1 h.2) (Pn _ _ h.1 h.2),rfl⟩
 ·have h':¬(a<0↔b<0):=by assumption
  have h: -9223372036854775808<=a+b/\a+b<=9223372036854775807:=by omega
  exact⟨aS (by rw [zB,IntWalk.wrap64_in _ h];exact Ry _ _ h.1 h.2) (Pn _ _ h.1 h.2),rfl⟩
theorem Vu{a b:Int}(h:a=b):Ending.returned (.int .u64 a)= .returned (.int .u64 b):=by rw [h]
theorem EX(a:Int)(w:World)(ha:I64 a):
  Calls Tryo.prog 317 #[.int .i64 a] w fun e w'=>e= .returned (.int .u64 ((a.natAbs:Nat):Int))/\w=w':=by
 obtain⟨ha1,ha2⟩:=ha
 go_enter Tryo.func317,Tryz.ntmps317
 go_wp2
 all_goals go_ret
 ·have h:a<0:=by assumption
  exact⟨Vu (by rw [IntKind.wrap_u64,IntKind.wrap_u64];omega),rfl⟩
 ·have h:0<=a:=by assumption
  exact⟨Vu (by omega),rfl⟩
theorem nE(a b:Int)(h:Cal.fits (a*b)=false):0=Cal.Gl a b/\6=Cal.Gd a b:=by
 rw [Cal.Gl,Cal.Gd,h];exact⟨rfl,rfl⟩
theorem ji(a b:Int)(h:Cal.fits (a*b)=true):a*b=Cal.Gl a b/\0=Cal.Gd a b:=by
 rw [Cal.Gl,Cal.Gd,h];exact⟨rfl,rfl⟩
end Go.Proofs.YthnjjcoahdhmnaaGreatDoor
namespace Go.Proofs.YthnjjcoahdhmnaaGreatDoor
open Go.ChangeShapes Go.WideShapes Go.ChangeAt Go.RowKit
theorem Rh(a b:Int)(h:a<0↔b<0):a*b=((a.natAbs*b.natAbs:Nat):Int):=by
 rw [Int.natCast_mul]
 by_cases c:a<0
 ·rw [show((a.natAbs:Nat):Int)= -a by omega,show((b.natAbs:Nat):Int)= -b by omega,Int.neg_mul_neg]
 ·rw [show((a.natAbs:Nat):Int)=a by omega,show((b.natAbs:Nat):Int)=b by omega]
theorem NH(a b:Int)(h:¬(a<0↔b<0)):a*b= -((a.natAbs*b.natAbs:Nat):Int):=by
 rw [Int.natCast_mul]
 by_cases c:a<0
 ·rw [show((a.natAbs:Nat):Int)= -a by omega,show((b.natAbs:Nat):Int)=b by omega,Int.neg_mul,Int.neg_neg]
 ·rw [show((a.natAbs:Nat):Int)=a by omega,show((b.natAbs:Nat):Int)= -b by omega,Int.mul_neg,Int.neg_neg]
theorem Cv(m hi lo:Int)(hm:m=hi*18446744073709551616+lo)(l0:0<=lo)(l1:lo<18446744073709551616)(h0:0<=hi)(h:hi≠0∨wrap64 lo<0):Cal.fits m=false:=by
 unfold wrap64 at h
 exact Cr (by omega)
theorem yJ(m hi lo:Int)(hm:m=hi*18446744073709551616+lo)(l0:0<=lo)(l1:lo<18446744073709551616)(h:hi=0)(h2:0<=wrap64 lo):Cal.fits m=true/\wrap64 lo=m:=by
 unfold wrap64 at h2⊢
 exact⟨nM (by omega) (by omega),by omega⟩
theorem y7(m hi lo:Int)(hm:m= -(hi*18446744073709551616+lo))(l0:0<=lo)(l1:lo<18446744073709551616)(h0:0<=hi)(h:hi≠0∨0<wrap64 (IntKind.u64.wrap (-lo))):Cal.fits m=false:=by
 rw [IntKind.wrap_u64]at h
 unfold wrap64 at h
 exact Cr (by omega)
theorem sF(m hi lo:Int)(hm:m= -(hi*18446744073709551616+lo))(l0:0<=lo)(l1:lo<18446744073709551616)(h:hi=0)(h2:wrap64 (IntKind.u64.wrap (-lo))<=0):Cal.fits m=true/\wrap64 (IntKind.u64.wrap (-lo))=m:=by
 rw [IntKind.wrap_u64]at h2⊢
 unfold wrap64 at h2⊢
 exact⟨nM (by omega) (by omega),by omega⟩
theorem VU(a b x y hi lo:Int)(w:World)(a0:a<0)(b0:b<0)(hab:Hid (a*b=hi*18446744073709551616+lo))(l0:0<=lo)(l1:lo<18446744073709551616)(h0:0<=hi)
  (SA:Hid (∀w:World,Calls Tryo.prog 317 #[.int .i64 a] w fun e w'=>e= .returned (.int .u64 x)/\w=w'))
  (SB:Hid (∀w:World,Calls Tryo.prog 317 #[.int .i64 b] w fun e w'=>e= .returned (.int .u64 y)/\w=w'))
  (HM:Hid (∀w:World,Calls Tryo.prog 316 #[.int .u64 x,.int .u64 y] w fun e w'=>e= .returned (.tuple #[.int .u64 hi,.int .u64 lo])/\w=w')):
  Calls Tryo.prog 306 #[.int .i64 a,.int .i64 b] w fun e w'=>e= .returned (.tuple #[.int .i64 (Cal.Gl a b),.int .i64 (Cal.Gd a b)])/\w=w':=by
 have da:decide (a<0)=true:=by simp;omega
 have db:decide (b<0)=true:=by simp;omega
 by_cases c1:hi=0
 ·have c1':(hi !=0)=false:=by rw [c1];rfl
  by_cases c2:wrap64 lo=0
  ·have k:=yJ _ hi lo hab.out l0 l1 c1 (by omega)
   have c2':(wrap64 lo !=0)=false:=by rw [c2];rfl
   have H:=Lib.hid (ji a b k.1)
   have K:=Lib.hid k.2
   have C1:=Lib.hid c1
   have C2:=Lib.hid c2
   clear k c1 c2
   go_enter Tryo.func306,Tryz.ntmps306
   go_wp2_with fail
   refine(SA.out _).mono ?_
   rintro e w' ⟨rfl,rfl⟩
   go_wp2_with fail
   refine(SB.out _).mono ?_
   rintro e w' ⟨rfl,rfl⟩
   go_wp2_with fail
   refine(HM.out _).mono ?_
   rintro e w' ⟨rfl,rfl⟩
   go_wp2_with fail
   go_ret2
   first|exact⟨aS (K.out.trans H.out.1) H.out.2,rfl⟩|exact⟨aS (C2.out.symm.trans (K.out.trans H.out.1)) H.out.2,rfl⟩
  have c2':(wrap64 lo !=0)=true:=by rw [bne_iff_ne];exact c2
  by_cases c3:wrap64 lo<0
  ·have c3':decide (wrap64 lo<0)=true:=by rw [decide_eq_true_eq];exact c3
   have H:=Lib.hid (nE a b (Cv _ hi lo hab.out l0 l1 h0 (.inr (by omega))))
   have C1:=Lib.hid c1
   have C2:=Lib.hid c2
   have C3:=Lib.hid c3
   clear c1 c2 c3
   go_enter Tryo.func306,Tryz.ntmps306
   go_wp2_with fail
   refine(SA.out _).mono ?_
   rintro e w' ⟨rfl,rfl⟩
   go_wp2_with fail
   refine(SB.out _).mono ?_
   rintro e w' ⟨rfl,rfl⟩
   go_wp2_with fail
   refine(HM.out _).mono ?_
   rintro e w' ⟨rfl,rfl⟩
   go_wp2_with fail
   go_ret2
   exact⟨aS H.out.1 H.out.2,rfl⟩
  ·have c3':decide (wrap64 lo<0)=false:=by rw [decide_eq_false_iff_not];exact c3
   have k:=yJ _ hi lo hab.out l0 l1 c1 (by omega)
   have H:=Lib.hid (ji a b k.1)
   have K:=Lib.hid k.2
   have C1:=Lib.hid c1
   have C2:=Lib.hid c2
   have C3:=Lib.hid c3
   clear k c1 c2 c3
   go_enter Tryo.func306,Tryz.ntmps306
   go_wp2_with fail
   refine(SA.out _).mono ?_
   rintro e w' ⟨rfl,rfl⟩
   go_wp2_with fail
   refine(SB.out _).mono ?_
   rintro e w' ⟨rfl,rfl⟩
   go_wp2_with fail
   refine(HM.out _).mono ?_
   rintro e w' ⟨rfl,rfl⟩
   go_wp2_with fail
   go_ret2
   first|exact⟨aS (K.out.trans H.out.1) H.out.2,rfl⟩|exact⟨aS (C2.out.symm.trans (K.out.trans H.out.1)) H.out.2,rfl⟩
 ·have c1':(hi !=0)=true:=by rw [bne_iff_ne];exact c1
  have H:=Lib.hid (nE a b (Cv _ hi lo hab.out l0 l1 h0 (.inl c1)))
  have C1:=Lib.hid c1
  clear c1
  go_enter Tryo.func306,Tryz.ntmps306
  go_wp2_with fail
  refine(SA.out _).mono ?_
  rintro e w' ⟨rfl,rfl⟩
  go_wp2_with fail
  refine(SB.out _).mono ?_
  rintro e w' ⟨rfl,rfl⟩
  go_wp2_with fail
  refine(HM.out _).mono ?_
  rintro e w' ⟨rfl,rfl⟩
  go_wp2_with fail
  go_ret2
  exact⟨aS H.out.1 H.out.2,rfl⟩
theorem Wq(a b x y hi lo:Int)(w:World)(a0:0<=a)(b0:0<=b)(hab:Hid (a*b=hi*18446744073709551616+lo))(l0:0<=lo)(l1:lo<18446744073709551616)(h0:0<=hi)
  (SA:Hid (∀w:World,Calls Tryo.prog 317 #[.int .i64 a] w fun e w'=>e= .returned (.int .u64 x)/\w=w'))
  (SB:Hid (∀w:World,Calls Tryo.prog 317 #[.int .i64 b] w fun e w'=>e= .returned (.int .u64 y)/\w=w'))
  (HM:Hid (∀w:World,Calls Tryo.prog 316 #[.int .u64 x,.int .u64 y] w fun e w'=>e= .returned (.tuple #[.int .u64 hi,.int .u64 lo])/\w=w')):
  Calls Tryo.prog 306 #[.int .i64 a,.int .i64 b] w fun e w'=>e= .returned (.tuple #[.int .i64 (Cal.Gl a b),.int .i64 (Cal.Gd a b)])/\w=w':=by
 have da:decide (a<0)=false:=by simp;omega
 have db:decide (b<0)=false:=by simp;omega
 by_cases c1:hi=0
 ·have c1':(hi !=0)=false:=by rw [c1];rfl
  by_cases c2:wrap64 lo=0
  ·have k:=yJ _ hi lo hab.out l0 l1 c1 (by omega)
   have c2':(wrap64 lo !=0)=false:=by rw [c2];rfl
   have H:=Lib.hid (ji a b k.1)
   have K:=Lib.hid k.2
   have C1:=Lib.hid c1
   have C2:=Lib.hid c2
   clear k c1 c2
   go_enter Tryo.func306,Tryz.ntmps306
   go_wp2_with fail
   refine(SA.out _).mono ?_
   rintro e w' ⟨rfl,rfl⟩
   go_wp2_with fail
   refine(SB.out _).mono ?_
   rintro e w' ⟨rfl,rfl⟩
   go_wp2_with fail
   refine(HM.out _).mono ?_
   rintro e w' ⟨rfl,rfl⟩
   go_wp2_with fail
   go_ret2
   first|exact⟨aS (K.out.trans H.out.1) H.out.2,rfl⟩|exact⟨aS (C2.out.symm.trans (K.out.trans H.out.1)) H.out.2,rfl⟩
  have c2':(wrap64 lo !=0)=true:=by rw [bne_iff_ne];exact c2
  by_cases c3:wrap64 lo<0
  ·have c3':decide (wrap64 lo<0)=true:=by rw [decide_eq_true_eq];exact c3
   have H:=Lib.hid (nE a b (Cv _ hi lo hab.out l0 l1 h0 (.inr (by omega))))
   have C1:=Lib.hid c1
   have C2:=Lib.hid c2
   have C3:=Lib.hid c3
   clear c1 c2 c3
   go_enter Tryo.func306,Tryz.ntmps306
   go_wp2_with fail
   refine(SA.out _).mono ?_
   rintro e w' ⟨rfl,rfl⟩
   go_wp2_with fail
   refine(SB.out _).mono ?_
   rintro e w' ⟨rfl,rfl⟩
   go_wp2_with fail
   refine(HM.out _).mono ?_
   rintro e w' ⟨rfl,rfl⟩
   go_wp2_with fail
   go_ret2
   exact⟨aS H.out.1 H.out.2,rfl⟩
  ·have c3':decide (wrap64 lo<0)=false:=by rw [decide_eq_false_iff_not];exact c3
   have k:=yJ _ hi lo hab.out l0 l1 c1 (by omega)
   have H:=Lib.hid (ji a b k.1)
   have K:=Lib.hid k.2
   have C1:=Lib.hid c1
   have C2:=Lib.hid c2
   have C3:=Lib.hid c3
   clear k c1 c2 c3
   go_enter Tryo.func306,Tryz.ntmps306
   go_wp2_with fail
   refine(SA.out _).mono ?_
   rintro e w' ⟨rfl,rfl⟩
   go_wp2_with fail
   refine(SB.out _).mono ?_
   rintro e w' ⟨rfl,rfl⟩
   go_wp2_with fail
   refine(HM.out _).mono ?_
   rintro e w' ⟨rfl,rfl⟩
   go_wp2_with fail
   go_ret2
   first|exact⟨aS (K.out.trans H.out.1) H.out.2,rfl⟩|exact⟨aS (C2.out.symm.trans (K.out.trans H.out.1)) H.out.2,rfl⟩
 ·have c1':(hi !=0)=true:=by rw [bne_iff_ne];exact c1
  have H:=Lib.hid (nE a b (Cv _ hi lo hab.out l0 l1 h0 (.inl c1)))
  have C1:=Lib.hid c1
  clear c1
  go_enter Tryo.func306,Tryz.ntmps306
  go_wp2_with fail
  refine(SA.out _).mono ?_
  rintro e w' ⟨rfl,rfl⟩
  go_wp2_with fail
  refine(SB.out _).mono ?_
  rintro e w' ⟨rfl,rfl⟩
  go_wp2_with fail
  refine(HM.out _).mono ?_
  rintro e w' ⟨rfl,rfl⟩
  go_wp2_with fail
  go_ret2
  exact⟨aS H.out.1 H.out.2,rfl⟩
theorem Wx(a b x y hi lo:Int)(w:World)(a0:a<0)(b0:0<=b)(hab:Hid (a*b= -(hi*18446744073709551616+lo)))(l0:0<=lo)(l1:lo<18446744073709551616)(h0:0<=hi)
  (SA:Hid (∀w:World,Calls Tryo.prog 317 #[.int .i64 a] w fun e w'=>e= .returned (.int .u64 x)/\w=w'))
  (SB:Hid (∀w:World,Calls Tryo.prog 317 #[.int .i64 b] w fun e w'=>e= .returned (.int .u64 y)/\w=w'))
  (HM:Hid (∀w:World,Calls Tryo.prog 316 #[.int .u64 x,.int .u64 y] w fun e w'=>e= .returned (.tuple #[.int .u64 hi,.int .u64 lo])/\w=w')):
  Calls Tryo.prog 306 #[.int .i64 a,.int .i64 b] w fun e w'=>e= .returned (.tuple #[.int .i64 (Cal.Gl a b),.int .i64 (Cal.Gd a b)])/\w=w':=by
 have da:decide (a<0)=true:=by simp;omega
 have db:decide (b<0)=false:=by simp;omega
 by_cases c1:hi=0
 ·have c1':(hi !=0)=false:=by rw [c1];rfl
  by_cases c2:wrap64 (IntKind.u64.wrap (-lo))=0
  ·have k:=sF _ hi lo hab.out l0 l1 c1 (by omega)
   have c2':(wrap64 (IntKind.u64.wrap (-lo))!=0)=false:=by rw [c2];rfl
   have H:=Lib.hid (ji a b k.1)
   have K:=Lib.hid k.2
   have C1:=Lib.hid c1
   have C2:=Lib.hid c2
   clear k c1 c2
   go_enter Tryo.func306,Tryz.ntmps306
   go_wp2_with fail
   refine(SA.out _).mono ?_
   rintro e w' ⟨rfl,rfl⟩
   go_wp2_with fail
   refine(SB.out _).mono ?_
   rintro e w' ⟨rfl,rfl⟩
   go_wp2_with fail
   refine(HM.out _).mono ?_
   rintro e w' ⟨rfl,rfl⟩
   go_wp2_with fail
   go_ret2
   first|exact⟨aS (K.out.trans H.out.1) H.out.2,rfl⟩|exact⟨aS (C2.out.symm.trans (K.out.trans H.out.1)) H.out.2,rfl⟩
  have c2':(wrap64 (IntKind.u64.wrap (-lo))!=0)=true:=by rw [bne_iff_ne];exact c2
  by_cases c3:wrap64 (IntKind.u64.wrap (-lo))<0
  ·have c3':decide (wrap64 (IntKind.u64.wrap (-lo))<0)=true:=by rw [decide_eq_true_eq];exact c3
   have k:=sF _ hi lo hab.out l0 l1 c1 (by omega)
   have H:=Lib.hid (ji a b k.1)
   have K:=Lib.hid k.2
   have C1:=Lib.hid c1
   have C2:=Lib.hid c2
   have C3:=Lib.hid c3
   clear k c1 c2 c3
   go_enter Tryo.func306,Tryz.ntmps306
   go_wp2_with fail
   refine(SA.out _).mono ?_
   rintro e w' ⟨rfl,rfl⟩
   go_wp2_with fail
   refine(SB.out _).mono ?_
   rintro e w' ⟨rfl,rfl⟩
   go_wp2_with fail
   refine(HM.out _).mono ?_
   rintro e w' ⟨rfl,rfl⟩
   go_wp2_with fail
   go_ret2
   first|exact⟨aS (K.out.trans H.out.1) H.out.2,rfl⟩|exact⟨aS (C2.out.symm.trans (K.out.trans H.out.1)) H.out.2,rfl⟩
  ·have c3':decide (wrap64 (IntKind.u64.wrap (-lo))<0)=false:=by rw [decide_eq_false_iff_not];exact c3
   have H:=Lib.hid (nE a b (y7 _ hi lo hab.out l0 l1 h0 (.inr (by omega))))
   have C1:=Lib.hid c1
   have C2:=Lib.hid c2
   have C3:=Lib.hid c3
   clear c1 c2 c3
   go_enter Tryo.func306,Tryz.ntmps306
   go_wp2_with fail
   refine(SA.out _).mono ?_
   rintro e w' ⟨rfl,rfl⟩
   go_wp2_with fail
   refine(SB.out _).mono ?_
   rintro e w' ⟨rfl,rfl⟩
   go_wp2_with fail
   refine(HM.out _).mono ?_
   rintro e w' ⟨rfl,rfl⟩
   go_wp2_with fail
   go_ret2
   exact⟨aS H.out.1 H.out.2,rfl⟩
 ·have c1':(hi !=0)=true:=by rw [bne_iff_ne];exact c1
  have H:=Lib.hid (nE a b (y7 _ hi lo hab.out l0 l1 h0 (.inl c1)))
  have C1:=Lib.hid c1
  clear c1
  go_enter Tryo.func306,Tryz.ntmps306
  go_wp2_with fail
  refine(SA.out _).mono ?_
  rintro e w' ⟨rfl,rfl⟩
  go_wp2_with fail
  refine(SB.out _).mono ?_
  rintro e w' ⟨rfl,rfl⟩
  go_wp2_with fail
  refine(HM.out _).mono ?_
  rintro e w' ⟨rfl,rfl⟩
  go_wp2_with fail
  go_ret2
  exact⟨aS H.out.1 H.out.2,rfl⟩
theorem Wv(a b x y hi lo:Int)(w:World)(a0:0<=a)(b0:b<0)(hab:Hid (a*b= -(hi*18446744073709551616+lo)))(l0:0<=lo)(l1:lo<18446744073709551616)(h0:0<=hi)
  (SA:Hid (∀w:World,Calls Tryo.prog 317 #[.int .i64 a] w fun e w'=>e= .returned (.int .u64 x)/\w=w'))
  (SB:Hid (∀w:World,Calls Tryo.prog 317 #[.int .i64 b] w fun e w'=>e= .returned (.int .u64 y)/\w=w'))
  (HM:Hid (∀w:World,Calls Tryo.prog 316 #[.int .u64 x,.int .u64 y] w fun e w'=>e= .returned (.tuple #[.int .u64 hi,.int .u64 lo])/\w=w')):
  Calls Tryo.prog 306 #[.int .i64 a,.int .i64 b] w fun e w'=>e= .returned (.tuple #[.int .i64 (Cal.Gl a b),.int .i64 (Cal.Gd a b)])/\w=w':=by
 have da:decide (a<0)=false:=by simp;omega
 have db:decide (b<0)=true:=by simp;omega
 by_cases c1:hi=0
 ·have c1':(hi !=0)=false:=by rw [c1];rfl
  by_cases c2:wrap64 (IntKind.u64.wrap (-lo))=0
  ·have k:=sF _ hi lo hab.out l0 l1 c1 (by omega)
   have c2':(wrap64 (IntKind.u64.wrap (-lo))!=0)=false:=by rw [c2];rfl
   have H:=Lib.hid (ji a b k.1)
   have K:=Lib.hid k.2
   have C1:=Lib.hid c1
   have C2:=Lib.hid c2
   clear k c1 c2
   go_enter Tryo.func306,Tryz.ntmps306
   go_wp2_with fail
   refine(SA.out _).mono ?_
   rintro e w' ⟨rfl,rfl⟩
   go_wp2_with fail
   refine(SB.out _).mono ?_
   rintro e w' ⟨rfl,rfl⟩
   go_wp2_with fail
   refine(HM.out _).mono ?_
   rintro e w' ⟨rfl,rfl⟩
   go_wp2_with fail
   go_ret2
   first|exact⟨aS (K.out.trans H.out.1) H.out.2,rfl⟩|exact⟨aS (C2.out.symm.trans (K.out.trans H.out.1)) H.out.2,rfl⟩
  have c2':(wrap64 (IntKind.u64.wrap (-lo))!=0)=true:=by rw [bne_iff_ne];exact c2
  by_cases c3:wrap64 (IntKind.u64.wrap (-lo))<0
  ·have c3':decide (wrap64 (IntKind.u64.wrap (-lo))<0)=true:=by rw [decide_eq_true_eq];exact c3
   have k:=sF _ hi lo hab.out l0 l1 c1 (by omega)
   have H:=Lib.hid (ji a b k.1)
   have K:=Lib.hid k.2
   have C1:=Lib.hid c1
   have C2:=Lib.hid c2
   have C3:=Lib.hid c3
   clear k c1 c2 c3
   go_enter Tryo.func306,Tryz.ntmps306
   go_wp2_with fail
   refine(SA.out _).mono ?_
   rintro e w' ⟨rfl,rfl⟩
   go_wp2_with fail
   refine(SB.out _).mono ?_
   rintro e w' ⟨rfl,rfl⟩
   go_wp2_with fail
   refine(HM.out _).mono ?_
   rintro e w' ⟨rfl,rfl⟩
   go_wp2_with fail
   go_ret2
   first|exact⟨aS (K.out.trans H.out.1) H.out.2,rfl⟩|exact⟨aS (C2.out.symm.trans (K.out.trans H.out.1)) H.out.2,rfl⟩
  ·have c3':decide (wrap64 (IntKind.u64.wrap (-lo))<0)=false:=by rw [decide_eq_false_iff_not];exact c3
   have H:=Lib.hid (nE a b (y7 _ hi lo hab.out l0 l1 h0 (.inr (by omega))))
   have C1:=Lib.hid c1
   have C2:=Lib.hid c2
   have C3:=Lib.hid c3
   clear c1 c2 c3
   go_enter Tryo.func306,Tryz.ntmps306
   go_wp2_with fail
   refine(SA.out _).mono ?_
   rintro e w' ⟨rfl,rfl⟩
   go_wp2_with fail
   refine(SB.out _).mono ?_
   rintro e w' ⟨rfl,rfl⟩
   go_wp2_with fail
   refine(HM.out _).mono ?_
   rintro e w' ⟨rfl,rfl⟩
   go_wp2_with fail
   go_ret2
   exact⟨aS H.out.1 H.out.2,rfl⟩
 ·have c1':(hi !=0)=true:=by rw [bne_iff_ne];exact c1
  have H:=Lib.hid (nE a b (y7 _ hi lo hab.out l0 l1 h0 (.inl c1)))
  have C1:=Lib.hid c1
  clear c1
  go_enter Tryo.func306,Tryz.ntmps306
  go_wp2_with fail
  refine(SA.out _).mono ?_
  rintro e w' ⟨rfl,rfl⟩
  go_wp2_with fail
  refine(SB.out _).mono ?_
  rintro e w' ⟨rfl,rfl⟩
  go_wp2_with fail
  refine(HM.out _).mono ?_
  rintro e w' ⟨rfl,rfl⟩
  go_wp2_with fail
  go_ret2
  exact⟨aS H.out.1 H.out.2,rfl⟩
theorem zR(a b:Int)(w:World)(ha:I64 a)(hb:I64 b):
  Calls Tryo.prog 306 #[.int .i64 a,.int .i64 b] w fun e w'=>e= .returned (.tuple #[.int .i64 (Cal.Gl a b),.int .i64 (Cal.Gd a b)])/\w=w':=by
 have hm:∀w:World,Calls Tryo.prog 316 #[.int .u64 (a.natAbs:Int),.int .u64 (b.natAbs:Int)] w fun e w'=>
   e= .returned (.tuple #[.int .u64 ((a.natAbs*b.natAbs / 18446744073709551616:Nat):Int),.int .u64 ((a.natAbs*b.natAbs % 18446744073709551616:Nat):Int)])/\w=w':=fun w=>
  (bits_Mul64 a.natAbs b.natAbs (by obtain⟨h1,h2⟩:=ha;omega) (by obtain⟨h1,h2⟩:=hb;omega) w).mono fun _ _ h=>⟨h.1,h.2.symm⟩
 have sa:=fun w=>EX a w ha
 have sb:=fun w=>EX b w hb
 have e1:=Rh a b
 have e2:=NH a b
 generalize a.natAbs*b.natAbs=n at*
 by_cases a0:a<0 <;> by_cases b0:b<0
 ·exact VU a b _ _ _ _ w a0 b0 (Lib.hid (by rw [e1 (by omega)];omega)) (by omega) (by omega) (by omega) (Lib.hid sa) (Lib.hid sb) (Lib.hid hm)
 ·exact Wx a b _ _ _ _ w a0 (by omega) (Lib.hid (by rw [e2 (by omega)];omega)) (by omega) (by omega) (by omega) (Lib.hid sa) (Lib.hid sb) (Lib.hid hm)
 ·exact Wv a b _ _ _ _ w (by omega) b0 (Lib.hid (by rw [e2 (by omega)];omega)) (by omega) (by omega) (by omega) (Lib.hid sa) (Lib.hid sb) (Lib.hid hm)
 ·exact Wq a b _ _ _ _ w (by omega) (by omega) (Lib.hid (by rw [e1 (by omega)];omega)) (by omega) (by omega) (by omega) (Lib.hid sa) (Lib.hid sb) (Lib.hid hm)
end Go.Proofs.YthnjjcoahdhmnaaGreatDoor
namespace Go.Proofs.YthnjjcoahdhmnaaGreatDoor
open Go.ChangeShapes Go.WideShapes Go.ChangeAt Go.RowKit
theorem jP(a b:Int)(w:World)(ha:I64 a)(hb:I64 b)(h:Cal.fits (a*b)=true):
  Calls Tryo.prog 306 #[.int .i64 a,.int .i64 b] w fun e w'=>e= .returned (.tuple #[.int .i64 (a*b),.int .i64 0])/\w=w':=by
 have:=zR a b w ha hb
 rwa [←(ji a b h).1,←(ji a b h).2]at this
theorem yt(a b:Int)(w:World)(ha:I64 a)(hb:I64 b)(h:Cal.fits (a*b)=false):
  Calls Tryo.prog 306 #[.int .i64 a,.int .i64 b] w fun e w'=>e= .returned (.tuple #[.int .i64 0,.int .i64 6])/\w=w':=by
 have:=zR a b w ha hb
 rwa [←(nE a b h).1,←(nE a b h).2]at this
theorem CF(a b:Int)(h:Cal.fits (a+b)=true):Cal.Dq a b=a+b/\Cal.CX a b=0:=by rw [Cal.Dq,Cal.CX,h];exact⟨rfl,rfl⟩
theorem PU(a b:Int)(h:Cal.fits (a+b)=false):Cal.Dq a b=0/\Cal.CX a b=6:=by rw [Cal.Dq,Cal.CX,h];exact⟨rfl,rfl⟩
theorem JZ(a b:Int)(w:World)(ha:I64 a)(hb:I64 b)(h:Cal.fits (a+b)=true):
  Calls Tryo.prog 307 #[.int .i64 a,.int .i64 b] w fun e w'=>e= .returned (.tuple #[.int .i64 (a+b),.int .i64 0])/\w=w':=by
 have:=Af a b w ha hb
 rwa [(CF a b h).1,(CF a b h).2]at this
theorem IY(a b:Int)(w:World)(ha:I64 a)(hb:I64 b)(h:Cal.fits (a+b)=false):
  Calls Tryo.prog 307 #[.int .i64 a,.int .i64 b] w fun e w'=>e= .returned (.tuple #[.int .i64 0,.int .i64 6])/\w=w':=by
 have:=Af a b w ha hb
 rwa [(PU a b h).1,(PU a b h).2]at this
theorem zi(a b:Int)(h:0<b):Cal.JD a b=a / b/\Cal.JL a b=a % b/\Cal.LG b=0:=by
 rw [Cal.JD,Cal.JL,Cal.LG,if_neg (by omega),if_neg (by omega),if_neg (by omega)];exact⟨rfl,rfl,rfl⟩
theorem kJ(a b:Int)(w:World)(ha:I64 a)(hb:I64 b)(h:0<b):
  Calls Tryo.prog 207 #[.int .i64 a,.int .i64 b] w fun e w'=>e= .returned (.tuple #[.int .i64 (a / b),.int .i64 0])/\w=w':=by
 have:=Rf a b w ha hb
 rwa [(zi a b h).1,(zi a b h).2.2]at this
theorem jd(a b:Int)(w:World)(ha:I64 a)(hb:I64 b)(h:0<b):
  Calls Tryo.prog 83 #[.int .i64 a,.int .i64 b] w fun e w'=>e= .returned (.tuple #[.int .i64 (a % b),.int .i64 0])/\w=w':=by
 have:=QS a b w ha hb
 rwa [(zi a b h).2.1,(zi a b h).2.2]at this
end Go.Proofs.YthnjjcoahdhmnaaGreatDoor
namespace Go.Proofs.YthnjjcoahdhmnaaGreatDoor
open Go.ChangeShapes Go.WideShapes Go.ChangeAt Go.RowKit
theorem aA{W w1:World}(hb:Below W.heap.size W w1):(∀b o,b<W.heap.size->w1.cell? ⟨b,o,none⟩=W.cell? ⟨b,o,none⟩)/\(∀b o,b<W.heap.size->w1.frozen? ⟨b,o,none⟩=W.frozen? ⟨b,o,none⟩):=
 ⟨fun b o h=>hb.cell (p:=⟨b,o,none⟩) h,fun b o h=>hb.frozen (p:=⟨b,o,none⟩) h⟩
theorem KL(n:Int)(w:World)(hn:I64 n):
  Calls Tryo.prog 272 #[.int .i64 n] w fun e w'=>e= .returned (.agg #[.int .i64 (n / 25920),.int .i64 (n % 25920)])/\Below w.heap.size w w':=by
 go_enter Tryo.func272,Tryz.ntmps272
 go_wp2_with fail
 refine(kJ n 25920 _ hn ⟨by omega,by omega⟩ (by omega)).mono ?_
 rintro e w' ⟨rfl,rfl⟩
 go_wp2_with fail
 refine(jd n 25920 _ hn ⟨by omega,by omega⟩ (by omega)).mono ?_
 rintro e w' ⟨rfl,rfl⟩
 go_wp2_with fail
 refine bodyPost_ret (v:= .agg #[.int .i64 (n / 25920),.int .i64 (n % 25920)]) (by simp [results,Tryz.results272,go_sem]) rfl ⟨rfl, ?_⟩
 exact((Below.refl _ _).alloc (Nat.le_refl _) _)
theorem pK{n:Int}(h:Cal.fits n=true):I64 n:=by
 simp only [Cal.fits,Bool.and_eq_true,decide_eq_true_eq]at h
 exact h
theorem K7(d h p:Int)(w:World)(hd:I64 d)(hh:I64 h)(hp:I64 p):
  Calls Tryo.prog 271 #[.int .i64 d,.int .i64 h,.int .i64 p] w fun e w'=>e= .returned (.tuple #[.int .i64 (Cal.Ed d h p),.int .i64 (Cal.EZ d h p)])/\w=w':=by
 by_cases c1:Cal.fits (d*25920)=true
 ·by_cases c2:Cal.fits (h*1080)=true
  ·by_cases c3:Cal.fits (d*25920+h*1080)=true
   ·have i1:=pK c1
    have i2:=pK c2
    have i3:=pK c3
    have HS:=Lib.hid (Cal.EA d h p c1 c2 c3)
    have HA:=Lib.hid (fun w=>Af (d*25920+h*1080) p w i3 hp)
    have e1:wrap64 (d*25920)=d*25920:=IntWalk.wrap64_in _ i1
    clear e1
    go_enter Tryo.func271,Tryz.ntmps271
    go_wp2_with fail
    refine(jP d 25920 _ hd ⟨by omega,by omega⟩ c1).mono ?_
    rintro e w' ⟨rfl,rfl⟩
    go_wp2_with fail
    refine(jP h 1080 _ hh ⟨by omega,by omega⟩ c2).mono ?_
    rintro e w' ⟨rfl,rfl⟩
    go_wp2_with fail
    refine(JZ (d*25920) (h*1080) _ i1 i2 c3).mono ?_
    rintro e w' ⟨rfl,rfl⟩
    go_wp2_with fail
    refine(HA.out _).mono ?_
    rintro e w' ⟨rfl,rfl⟩
    go_wp2_with fail
    go_ret2
    exact⟨aS HS.out.1.symm HS.out.2.symm,rfl⟩
   ·have c3:Cal.fits (d*25920+h*1080)=false:=by simpa using c3
    have i1:=pK c1
    have i2:=pK c2
    have HS:=Lib.hid (Cal.Dw d h p (by rw [c3];simp))
    go_enter Tryo.func271,Tryz.ntmps271
    go_wp2_with fail
    refine(jP d 25920 _ hd ⟨by omega,by omega⟩ c1).mono ?_
    rintro e w' ⟨rfl,rfl⟩
    go_wp2_with fail
    refine(jP h 1080 _ hh ⟨by omega,by omega⟩ c2).mono ?_
    rintro e w' ⟨rfl,rfl⟩
    go_wp2_with fail
    refine(IY (d*25920) (h*1080) _ i1 i2 c3).mono ?_
    rintro e w' ⟨rfl,rfl⟩
    go_wp2_with fail
    go_ret2
    exact⟨aS HS.out.1.symm HS.out.2.symm,rfl⟩
  ·have c2:Cal.fits (h*1080)=false:=by simpa using c2
   have HS:=Lib.hid (Cal.Dw d h p (by rw [c2];simp))
   go_enter Tryo.func271,Tryz.ntmps271
   go_wp2_with fail
   refine(jP d 25920 _ hd ⟨by omega,by omega⟩ c1).mono ?_
   rintro e w' ⟨rfl,rfl⟩
   go_wp2_with fail
   refine(yt h 1080 _ hh ⟨by omega,by omega⟩ c2).mono ?_
   rintro e w' ⟨rfl,rfl⟩
   go_wp2_with fail
   go_ret2
   exact⟨aS HS.out.1.symm HS.out.2.symm,rfl⟩
 ·have c1:Cal.fits (d*25920)=false:=by simpa using c1
  have HS:=Lib.hid (Cal.Dw d h p (by rw [c1];simp))
  go_enter Tryo.func271,Tryz.ntmps271
  go_wp2_with fail
  refine(yt d 25920 _ hd ⟨by omega,by omega⟩ c1).mono ?_
  rintro e w' ⟨rfl,rfl⟩
  go_wp2_with fail
  go_ret2
  exact⟨aS HS.out.1.symm HS.out.2.symm,rfl⟩
theorem ML(n:Int)(w:World)(hn:I64 n):
  Calls Tryo.prog 270 #[.int .i64 n] w fun e w'=>e= .returned (.tuple #[.int .i64 (Cal.Gl n 765433),.int .i64 (Cal.Gd n 765433)])/\w=w':=by
 go_enter Tryo.func270,Tryz.ntmps270
 go_wp2_with fail
 refine(zR n 765433 _ hn ⟨by omega,by omega⟩).mono ?_
 rintro e w' ⟨rfl,rfl⟩
 go_wp2_with fail
 go_ret2
 exact⟨rfl,rfl⟩
end Go.Proofs.YthnjjcoahdhmnaaGreatDoor
namespace Go.Proofs.YthnjjcoahdhmnaaGreatDoor
open Go.ChangeShapes Go.WideShapes Go.ChangeAt Go.RowKit
theorem bt{a b c:World}(h:Below a.heap.size a b)(k:Below b.heap.size b c):Below a.heap.size a c:=h.trans (k.mono h.size)
theorem ba(w:World)(o:Obj):Below w.heap.size w (w.alloc o):=(Below.refl _ _).alloc (Nat.le_refl _) _
theorem baa{a b:World}(h:Below a.heap.size a b)(o:Obj):Below a.heap.size a (b.alloc o):=h.alloc h.size _
theorem bs{a b:World}(h:Below a.heap.size a b){p:Addr}(hp:a.heap.size<=p.block)(u:Value):Below a.heap.size a (b.setCell p u):=h.setCell hp u
end Go.Proofs.YthnjjcoahdhmnaaGreatDoor
namespace Go.Proofs.YthnjjcoahdhmnaaGreatDoor
open Go.ChangeShapes Go.WideShapes Go.ChangeAt Go.RowKit
theorem dS(y:Int)(h0:0<=y)(h1:y<=10001):Cal.Aa y=true:=by simp [Cal.Aa,h0,h1]
theorem kF(y:Int)(h:y<0∨10001<y):Cal.Aa y=false:=by
 rw [Bool.eq_false_iff];intro h';simp only [Cal.Aa,Bool.and_eq_true,decide_eq_true_eq]at h';omega
theorem jS(y:Int)(w:World):
  Calls Tryo.prog 173 #[.int .i64 y] w fun e w'=>e= .returned (.bool (Cal.Aa y))/\w=w':=by
 rcases(show y<0∨(0<=y/\y<=10001)∨(0<=y/\10001<y) by omega)with c|⟨c,c'⟩|⟨c,c'⟩
 ·have HS:=Lib.hid (kF y (by omega))
  go_enter Tryo.func173,Tryz.ntmps173
  go_wp2
  go_ret
  first|exact⟨y8 HS.out.symm,rfl⟩|exact⟨y8 ((decide_eq_false (by omega)).trans HS.out.symm),rfl⟩|exact⟨y8 ((decide_eq_true (by omega)).trans HS.out.symm),rfl⟩
 ·have HS:=Lib.hid (dS y c c')
  go_enter Tryo.func173,Tryz.ntmps173
  go_wp2
  go_ret
  first|exact⟨y8 HS.out.symm,rfl⟩|exact⟨y8 ((decide_eq_false (by omega)).trans HS.out.symm),rfl⟩|exact⟨y8 ((decide_eq_true (by omega)).trans HS.out.symm),rfl⟩
 ·have HS:=Lib.hid (kF y (by omega))
  go_enter Tryo.func173,Tryz.ntmps173
  go_wp2
  go_ret
  first|exact⟨y8 HS.out.symm,rfl⟩|exact⟨y8 ((decide_eq_false (by omega)).trans HS.out.symm),rfl⟩|exact⟨y8 ((decide_eq_true (by omega)).trans HS.out.symm),rfl⟩
theorem Bl(a b:Int)(w:World)(ha:I64 a)(hb:I64 b)(h:0<b):
  Calls Tryo.prog 174 #[.int .i64 a,.int .i64 b] w fun e w'=>e= .returned (.tuple #[.int .i64 (a / b),.int .i64 (a % b)])/\w=w':=by
 have HD:=Lib.hid (fun w=>kJ a b w ha hb h)
 have HM:=Lib.hid (fun w=>jd a b w ha hb h)
 go_enter Tryo.func174,Tryz.ntmps174
 go_wp2_with fail
 refine(HD.out _).mono ?_
 rintro e w' ⟨rfl,rfl⟩
 go_wp2_with fail
 refine(HM.out _).mono ?_
 rintro e w' ⟨rfl,rfl⟩
 go_wp2_with fail
 go_ret2
 exact⟨rfl,rfl⟩
theorem CK(y:Int)(w:World):
  Calls Tryo.prog 102 #[.int .i64 y] w fun e w'=>e= .returned (.tuple #[.bool (Cal.zF y),.int .i64 (Cal.dR y)])/\w=w':=by
 by_cases c:0<=y/\y<=10001
 ·obtain⟨c1,c2⟩:=c
  have h:=dS y c1 c2
  have HS:=Lib.hid (show Cal.zF y=decide ((7*y+1) % 19<7)/\Cal.dR y=0 by rw [Cal.zF,Cal.dR,h];exact⟨rfl,rfl⟩)
  go_enter Tryo.func102,Tryz.ntmps102
  go_wp2_with fail
  refine(jS y _).mono ?_
  rintro e w' ⟨rfl,rfl⟩
  go_wp2_with fail
  refine(Bl (7*y+1) 19 _ ⟨by omega,by omega⟩ ⟨by omega,by omega⟩ (by omega)).mono ?_
  rintro e w' ⟨rfl,rfl⟩
  go_wp2_with fail
  go_ret2
  exact⟨SY HS.out.1.symm HS.out.2.symm,rfl⟩
 ·have h:=kF y (by omega)
  have HS:=Lib.hid (show Cal.zF y=false/\Cal.dR y=2 by rw [Cal.zF,Cal.dR,h];exact⟨rfl,rfl⟩)
  go_enter Tryo.func102,Tryz.ntmps102
  go_wp2_with fail
  refine(jS y _).mono ?_
  rintro e w' ⟨rfl,rfl⟩
  go_wp2_with fail
  go_ret2
  exact⟨SY HS.out.1.symm HS.out.2.symm,rfl⟩
theorem Pp(y:Int)(h0:0<=y)(h1:y<=10001):Cal.zF y=Cal.leap y/\Cal.dR y=0:=by rw [Cal.zF,Cal.dR,dS y h0 h1];exact⟨rfl,rfl⟩
theorem Pw(y:Int)(h:y<0∨10001<y):Cal.zF y=false/\Cal.dR y=2:=by rw [Cal.zF,Cal.dR,kF y h];exact⟨rfl,rfl⟩
theorem aT(y:Int)(w:World)(h0:0<=y)(h1:y<=10001):
  Calls Tryo.prog 102 #[.int .i64 y] w fun e w'=>e= .returned (.tuple #[.bool (Cal.leap y),.int .i64 0])/\w=w':=by
 have:=CK y w
 rwa [(Pp y h0 h1).1,(Pp y h0 h1).2]at this
theorem nD(y:Int)(w:World)(h:y<0∨10001<y):
  Calls Tryo.prog 102 #[.int .i64 y] w fun e w'=>e= .returned (.tuple #[.bool false,.int .i64 2])/\w=w':=by
 have:=CK y w
 rwa [(Pw y h).1,(Pw y h).2]at this
theorem OE(y:Int)(h0:0<=y)(h1:y<=10001)(h:Cal.leap y=true):Cal.mV y=13/\Cal.dR y=0:=by
 rw [Cal.mV,Cal.months,Cal.dR,dS y h0 h1,h];exact⟨rfl,rfl⟩
theorem Ju(y:Int)(h0:0<=y)(h1:y<=10001)(h:Cal.leap y=false):Cal.mV y=12/\Cal.dR y=0:=by
 rw [Cal.mV,Cal.months,Cal.dR,dS y h0 h1,h];exact⟨rfl,rfl⟩
theorem zW(y:Int)(h:y<0∨10001<y):Cal.mV y=0/\Cal.dR y=2:=by rw [Cal.mV,Cal.dR,kF y h];exact⟨rfl,rfl⟩
theorem Nk(y:Int)(w:World):
  Calls Tryo.prog 222 #[.int .i64 y] w fun e w'=>e= .returned (.tuple #[.int .i64 (Cal.mV y),.int .i64 (Cal.dR y)])/\w=w':=by
 by_cases c:0<=y/\y<=10001
 ·obtain⟨c1,c2⟩:=c
  have hr:=dS y c1 c2
  cases h:Cal.leap y
  ·have HS:=Lib.hid (Ju y c1 c2 h)
   go_enter Tryo.func222,Tryz.ntmps222
   go_wp2_with fail
   refine(aT y _ c1 c2).mono ?_
   rintro e w' ⟨rfl,rfl⟩
   go_wp2_with fail
   go_ret2
   exact⟨aS HS.out.1.symm HS.out.2.symm,rfl⟩
  ·have HS:=Lib.hid (OE y c1 c2 h)
   go_enter Tryo.func222,Tryz.ntmps222
   go_wp2_with fail
   refine(aT y _ c1 c2).mono ?_
   rintro e w' ⟨rfl,rfl⟩
   go_wp2_with fail
   go_ret2
   exact⟨aS HS.out.1.symm HS.out.2.symm,rfl⟩
 ·have hr:=kF y (by omega)
  have HS:=Lib.hid (zW y (by omega))
  go_enter Tryo.func222,Tryz.ntmps222
  go_wp2_with fail
  refine(nD y _ (by omega)).mono ?_
  rintro e w' ⟨rfl,rfl⟩
  go_wp2_with fail
  go_ret2
  exact⟨aS HS.out.1.symm HS.out.2.symm,rfl⟩
theorem Ae(y:Int)(h0:0<=y)(h1:y<=10001):Cal.yE y=Cal.before y/\Cal.dR y=0:=by rw [Cal.yE,Cal.dR,dS y h0 h1];exact⟨rfl,rfl⟩
theorem Rq(y:Int)(h:y<0∨10001<y):Cal.yE y=0/\Cal.dR y=2:=by rw [Cal.yE,Cal.dR,kF y h];exact⟨rfl,rfl⟩
theorem Ko(y:Int)(w:World):
  Calls Tryo.prog 223 #[.int .i64 y] w fun e w'=>e= .returned (.tuple #[.int .i64 (Cal.yE y),.int .i64 (Cal.dR y)])/\w=w':=by
 by_cases c:0<=y/\y<=10001
 ·obtain⟨c1,c2⟩:=c
  have hr:=dS y c1 c2
  have hs:=Ae y c1 c2
  rw [show Cal.before y=(235*y-235+1) / 19 by unfold Cal.before;congr 1;omega]at hs
  have HS:=Lib.hid hs
  clear hs
  go_enter Tryo.func223,Tryz.ntmps223
  go_wp2_with fail
  refine(jS y _).mono ?_
  rintro e w' ⟨rfl,rfl⟩
  go_wp2_with fail
  refine(Bl (235*y-235+1) 19 _ ⟨by omega,by omega⟩ ⟨by omega,by omega⟩ (by omega)).mono ?_
  rintro e w' ⟨rfl,rfl⟩
  go_wp2_with fail
  go_ret2
  exact⟨aS HS.out.1.symm HS.out.2.symm,rfl⟩
 ·have hr:=kF y (by omega)
  have HS:=Lib.hid (Rq y (by omega))
  go_enter Tryo.func223,Tryz.ntmps223
  go_wp2_with fail
  refine(jS y _).mono ?_
  rintro e w' ⟨rfl,rfl⟩
  go_wp2_with fail
  go_ret2
  exact⟨aS HS.out.1.symm HS.out.2.symm,rfl⟩
theorem pX(y:Int)(w:World)(h0:0<=y)(h1:y<=10001):
  Calls Tryo.prog 222 #[.int .i64 y] w fun e w'=>e= .returned (.tuple #[.int .i64 (Cal.months y),.int .i64 0])/\w=w':=by
 have:=Nk y w
 rwa [Cal.mV,Cal.dR,dS y h0 h1,if_pos rfl,if_pos rfl]at this
theorem Ld(y:Int)(w:World)(h:y<0∨10001<y):
  Calls Tryo.prog 222 #[.int .i64 y] w fun e w'=>e= .returned (.tuple #[.int .i64 0,.int .i64 2])/\w=w':=by
 have:=Nk y w
 rwa [(zW y h).1,(zW y h).2]at this
theorem oZ(y:Int)(w:World)(h0:0<=y)(h1:y<=10001):
  Calls Tryo.prog 223 #[.int .i64 y] w fun e w'=>e= .returned (.tuple #[.int .i64 (Cal.before y),.int .i64 0])/\w=w':=by
 have:=Ko y w
 rwa [(Ae y h0 h1).1,(Ae y h0 h1).2]at this
end Go.Proofs.YthnjjcoahdhmnaaGreatDoor
namespace Go.Proofs.YthnjjcoahdhmnaaGreatDoor
open Go.ChangeShapes Go.WideShapes Go.ChangeAt Go.RowKit
theorem bO(d:Int)(w:World)(hd:I64 d):
  Calls Tryo.prog 27 #[.int .i64 d] w fun e w'=>e= .returned (.int .i64 (d % 7))/\w=w':=by
 go_enter Tryo.func27,Tryz.ntmps27
 go_wp2_with fail
 refine(jd d 7 _ hd ⟨by omega,by omega⟩ (by omega)).mono ?_
 rintro e w' ⟨rfl,rfl⟩
 go_wp2_with fail
 go_ret
 exact⟨rfl,rfl⟩
theorem zy(n:Int)(h1: -200000<=n)(h2:n<=200000):Cal.LX n=Cal.bM n/\Cal.LK n=Cal.bL n/\Cal.L6 n=0:=by
 have h:Cal.uQ n=true:=by simp [Cal.uQ,h1,h2]
 rw [Cal.LX,Cal.LK,Cal.L6,h];exact⟨rfl,rfl,rfl⟩
theorem Pd(n:Int)(h:n< -200000∨200000<n):Cal.LX n=0/\Cal.LK n=0/\Cal.L6 n=2:=by
 have h:Cal.uQ n=false:=by
  rw [Bool.eq_false_iff];intro h';simp only [Cal.uQ,Bool.and_eq_true,decide_eq_true_eq]at h';omega
 rw [Cal.LX,Cal.LK,Cal.L6,h];exact⟨rfl,rfl,rfl⟩
theorem ER(n:Int)(w:World)(h1: -200000<=n)(h2:n<=200000):
  Calls Tryo.prog 270 #[.int .i64 n] w fun e w'=>e= .returned (.tuple #[.int .i64 (n*765433),.int .i64 0])/\w=w':=by
 have:=ML n w ⟨by omega,by omega⟩
 have hf:Cal.fits (n*765433)=true:=nM (by omega) (by omega)
 rwa [←(ji _ _ hf).1,←(ji _ _ hf).2]at this
theorem zN(n:Int)(w:World)(h1: -200000<=n)(h2:n<=200000):
  Calls Tryo.prog 271 #[.int .i64 (-1373427),.int .i64 5,.int .i64 (204+n*765433)] w fun e w'=>e= .returned (.tuple #[.int .i64 (5604+765433*n-35599227840),.int .i64 0])/\w=w':=by
 have:=K7 (-1373427) 5 (204+n*765433) w ⟨by omega,by omega⟩ ⟨by omega,by omega⟩ ⟨by omega,by omega⟩
 have f4:Cal.fits (-1373427*25920+5*1080+(204+n*765433))=true:=nM (by omega) (by omega)
 rw [(Cal.EA (-1373427) 5 (204+n*765433) (by decide) (by decide) (by decide)).1,(Cal.EA (-1373427) 5 (204+n*765433) (by decide) (by decide) (by decide)).2,(CF _ _ f4).1,(CF _ _ f4).2]at this
 rwa [show -1373427*25920+5*1080+(204+n*765433)=5604+765433*n-35599227840 by omega]at this
theorem zV(n:Int)(w:World)(h1: -200000<=n)(h2:n<=200000):
  Calls Tryo.prog 272 #[.int .i64 (5604+765433*n-35599227840)] w fun e w'=>e= .returned (.agg #[.int .i64 (Cal.bM n),.int .i64 (Cal.bL n)])/\Below w.heap.size w w':=by
 have:=KL (5604+765433*n-35599227840) w ⟨by omega,by omega⟩
 rwa [show(5604+765433*n-35599227840) / 25920=Cal.bM n by unfold Cal.bM;omega,show(5604+765433*n-35599227840) % 25920=Cal.bL n by unfold Cal.bL;omega]at this
theorem NQ(n:Int)(w:World):
  Calls Tryo.prog 224 #[.int .i64 n] w fun e w'=>e= .returned (.tuple #[.agg #[.int .i64 (Cal.LX n),.int .i64 (Cal.LK n)],.int .i64 (Cal.L6 n)])/\Below w.heap.size w w':=by
 rcases(show n< -200000∨(-200000<=n/\n<=200000)∨(-200000<=n/\200000<n) by omega)with c|⟨c1,c2⟩|⟨c1,c⟩
 ·have HS:=Pd n (by omega)
  rw [HS.1,HS.2.1,HS.2.2]
  clear HS
  go_enter Tryo.func224,Tryz.ntmps224
  go_wp2_with fail
  refine bodyPost_ret (v:= .tuple #[.agg #[.int .i64 0,.int .i64 0],.int .i64 2]) (by simp [results,Tryz.results224,go_sem]) rfl ⟨rfl,ba _ _⟩
 ·have HS:=zy n c1 c2
  rw [HS.1,HS.2.1,HS.2.2]
  clear HS
  go_enter Tryo.func224,Tryz.ntmps224
  go_wp2_with fail
  refine(ER n _ c1 c2).mono ?_
  rintro e w' ⟨rfl,rfl⟩
  go_wp2_with fail
  refine(zN n _ c1 c2).mono ?_
  rintro e w' ⟨rfl,rfl⟩
  go_wp2_with fail
  refine(zV n _ c1 c2).mono ?_
  rintro e w1 ⟨rfl,hb1⟩
  obtain⟨hc1,hf1⟩:=aA hb1
  have hz1:=hb1.size
  try simp at hz1
  have hl1w:w.heap.size<w1.heap.size:=by omega
  have hm1w:w.heap.size<=w1.heap.size:=by omega
  have g1x0:w1.cell? ⟨w.heap.size,0,none⟩=some (.int .i64 0):=(hc1 _ _ (by simp;try omega)).trans (by first|assumption|simp [go_sem]|simp [go_sem, *])
  have g1x1:w1.cell? ⟨w.heap.size,1,none⟩=some (.int .i64 0):=(hc1 _ _ (by simp;try omega)).trans (by first|assumption|simp [go_sem]|simp [go_sem, *])
  go_wp2_with fail
  refine bodyPost_ret (v:= .tuple #[.agg #[.int .i64 (Cal.bM n),.int .i64 (Cal.bL n)],.int .i64 0]) (by simp [results,Tryz.results224,go_sem,g1x0,g1x1]) rfl ⟨rfl, ?_⟩
  exact bs (bs (bt (ba _ _) hb1) (Nat.le_refl _) _) (Nat.le_refl _) _
 ·have HS:=Pd n (by omega)
  rw [HS.1,HS.2.1,HS.2.2]
  clear HS
  go_enter Tryo.func224,Tryz.ntmps224
  go_wp2_with fail
  refine bodyPost_ret (v:= .tuple #[.agg #[.int .i64 0,.int .i64 0],.int .i64 2]) (by simp [results,Tryz.results224,go_sem]) rfl ⟨rfl,ba _ _⟩
theorem Eb(n:Int)(h1: -200000<=n)(h2:n<=200000): -7300000<=Cal.bM n/\Cal.bM n<=4600000:=by unfold Cal.bM;omega
theorem Ma(n:Int):0<=Cal.bL n/\Cal.bL n<25920:=by unfold Cal.bL;omega
theorem zX(y:Int):12<=Cal.months y/\Cal.months y<=13:=by unfold Cal.months;split <;> omega
theorem jC(y:Int)(h0:0<=y)(h1:y<=10001): -13<=Cal.before y/\Cal.before y<=123700:=by unfold Cal.before;omega
theorem P7(y m:Int)(h:y<0∨10001<y):Cal.ofD y m=0/\Cal.ofP y m=0/\Cal.ofE y m=2:=by
 rw [Cal.ofD,Cal.ofP,Cal.ofE,kF y h];exact⟨rfl,rfl,rfl⟩
theorem Km(y m:Int)(h0:0<=y)(h1:y<=10001)(m1:1<=m)(m2:m<=Cal.months y):Cal.ofD y m=Cal.bM (Cal.before y+m-1)/\Cal.ofP y m=Cal.bL (Cal.before y+m-1)/\Cal.ofE y m=0:=by
 have h:Cal.Oi y m=true:=by simp [Cal.Oi,m1,m2]
 rw [Cal.ofD,Cal.ofP,Cal.ofE,dS y h0 h1,h];exact⟨rfl,rfl,rfl⟩
theorem MN(y m:Int)(h0:0<=y)(h1:y<=10001)(h:m<1∨Cal.months y<m):Cal.ofD y m=0/\Cal.ofP y m=0/\Cal.ofE y m=3:=by
 have h:Cal.Oi y m=false:=by
  rw [Bool.eq_false_iff];intro h';simp only [Cal.Oi,Bool.and_eq_true,decide_eq_true_eq]at h';omega
 rw [Cal.ofD,Cal.ofP,Cal.ofE,dS y h0 h1,h];exact⟨rfl,rfl,rfl⟩
theorem Gt(n:Int)(w:World)(h1: -200000<=n)(h2:n<=200000):
  Calls Tryo.prog 224 #[.int .i64 n] w fun e w'=>e= .returned (.tuple #[.agg #[.int .i64 (Cal.bM n),.int .i64 (Cal.bL n)],.int .i64 0])/\Below w.heap.size w w':=by
 have:=NQ n w
 rwa [(zy n h1 h2).1,(zy n h1 h2).2.1,(zy n h1 h2).2.2]at this
theorem M8(y m:Int)(w:World)(hm:I64 m):
  Calls Tryo.prog 176 #[.int .i64 y,.int .i64 m] w fun e w'=>e= .returned (.tuple #[.agg #[.int .i64 (Cal.ofD y m),.int .i64 (Cal.ofP y m)],.int .i64 (Cal.ofE y m)])/\Below w.heap.size w w':=by
 by_cases c:0<=y/\y<=10001
 ·obtain⟨c1,c2⟩:=c
  obtain⟨b1,b2⟩:=zX y
  obtain⟨b3,b4⟩:=jC y c1 c2
  rcases(show m<1∨(1<=m/\m<=Cal.months y)∨(1<=m/\Cal.months y<m) by omega)with c|⟨m1,m2⟩|⟨m1,c⟩
  ·have HS:=MN y m c1 c2 (.inl c)
   rw [HS.1,HS.2.1,HS.2.2]
   clear HS
   go_enter Tryo.func176,Tryz.ntmps176
   go_wp2_with fail
   refine(pX y _ c1 c2).mono ?_
   rintro e w' ⟨rfl,rfl⟩
   go_wp2_with fail
   refine bodyPost_ret (v:= .tuple #[.agg #[.int .i64 0,.int .i64 0],.int .i64 3]) (by simp [results,Tryz.results176,go_sem]) rfl ⟨rfl,ba _ _⟩
  ·have HS:=Km y m c1 c2 m1 m2
   rw [HS.1,HS.2.1,HS.2.2]
   clear HS
   obtain⟨m3,m4⟩:=hm
   go_enter Tryo.func176,Tryz.ntmps176
   go_wp2_with fail
   refine(pX y _ c1 c2).mono ?_
   rintro e w' ⟨rfl,rfl⟩
   go_wp2_with fail
   refine(oZ y _ c1 c2).mono ?_
   rintro e w' ⟨rfl,rfl⟩
   go_wp2_with fail
   refine(Gt (Cal.before y+m-1) _ (by omega) (by omega)).mono ?_
   rintro e w1 ⟨rfl,hb1⟩
   obtain⟨hc1,hf1⟩:=aA hb1
   have hz1:=hb1.size
   try simp at hz1
   have hl1w:w.heap.size<w1.heap.size:=by omega
   have hm1w:w.heap.size<=w1.heap.size:=by omega
   have g1x0:w1.cell? ⟨w.heap.size,0,none⟩=some (.int .i64 0):=(hc1 _ _ (by simp;try omega)).trans (by first|assumption|simp [go_sem]|simp [go_sem, *])
   have g1x1:w1.cell? ⟨w.heap.size,1,none⟩=some (.int .i64 0):=(hc1 _ _ (by simp;try omega)).trans (by first|assumption|simp [go_sem]|simp [go_sem, *])
   go_wp2_with fail
   refine bodyPost_ret (v:= .tuple #[.agg #[.int .i64 (Cal.bM (Cal.before y+m-1)),.int .i64 (Cal.bL (Cal.before y+m-1))],.int .i64 0]) (by simp [results,Tryz.results176,go_sem,g1x0,g1x1]) rfl ⟨rfl, ?_⟩
   exact bs (bs (bt (ba _ _) hb1) (Nat.le_refl _) _) (Nat.le_refl _) _
  ·have HS:=MN y m c1 c2 (.inr c)
   rw [HS.1,HS.2.1,HS.2.2]
   clear HS
   go_enter Tryo.func176,Tryz.ntmps176
   go_wp2_with fail
   refine(pX y _ c1 c2).mono ?_
   rintro e w' ⟨rfl,rfl⟩
   go_wp2_with fail
   refine bodyPost_ret (v:= .tuple #[.agg #[.int .i64 0,.int .i64 0],.int .i64 3]) (by simp [results,Tryz.results176,go_sem]) rfl ⟨rfl,ba _ _⟩
 ·have HS:=P7 y m (by omega)
  rw [HS.1,HS.2.1,HS.2.2]
  clear HS
  go_enter Tryo.func176,Tryz.ntmps176
  go_wp2_with fail
  refine(Ld y _ (by omega)).mono ?_
  rintro e w' ⟨rfl,rfl⟩
  go_wp2_with fail
  refine bodyPost_ret (v:= .tuple #[.agg #[.int .i64 0,.int .i64 0],.int .i64 2]) (by simp [results,Tryz.results176,go_sem]) rfl ⟨rfl,ba _ _⟩
end Go.Proofs.YthnjjcoahdhmnaaGreatDoor
namespace Go.Proofs.YthnjjcoahdhmnaaGreatDoor
open Go.ChangeShapes Go.WideShapes Go.ChangeAt Go.RowKit
theorem Kt(y m n:Int)(w:World)(h0:0<=y)(h1:y<=10001)(m1:1<=m)(m2:m<=Cal.months y)(hn:Cal.before y+m-1=n):
  Calls Tryo.prog 176 #[.int .i64 y,.int .i64 m] w fun e w'=>e= .returned (.tuple #[.agg #[.int .i64 (Cal.bM n),.int .i64 (Cal.bL n)],.int .i64 0])/\Below w.heap.size w w':=by
 have:=M8 y m w (by obtain⟨b1,b2⟩:=zX y;exact⟨by omega,by omega⟩)
 rwa [(Km y m h0 h1 m1 m2).1,(Km y m h0 h1 m1 m2).2.1,(Km y m h0 h1 m1 m2).2.2,hn]at this
theorem bdn{a b:World}(h:Below a.heap.size a b)(n:Nat):Below a.heap.size a (b.drewN n):=h.trans ⟨rfl,rfl,rfl,Nat.le_refl _,fun _ _=>rfl⟩
end Go.Proofs.YthnjjcoahdhmnaaGreatDoor
namespace Go.Proofs.YthnjjcoahdhmnaaGreatDoor
open Go.ChangeShapes Go.WideShapes Go.ChangeAt Go.RowKit
theorem LU(d p:Int):Cal.delay d p true true=if 19440<=p∨(d % 7=1/\16789<=p)then(if(d % 7+1) % 7=0∨(d % 7+1) % 7=3∨(d % 7+1) % 7=5 then 2 else 1)else(if d % 7=0∨d % 7=3∨d % 7=5 then 1 else 0):=by
 unfold Cal.delay Cal.uX
 simp only [Bool.not_true,Bool.false_and,Bool.true_and,Bool.false_eq_true,if_false,Bool.and_eq_true,beq_iff_eq,decide_eq_true_eq]
 repeat' split
 all_goals omega
theorem KZ(d p:Int):Cal.delay d p true false=if 19440<=p then(if(d % 7+1) % 7=0∨(d % 7+1) % 7=3∨(d % 7+1) % 7=5 then 2 else 1)else(if d % 7=0∨d % 7=3∨d % 7=5 then 1 else 0):=by
 unfold Cal.delay Cal.uX
 simp only [Bool.not_true,Bool.false_and,Bool.false_eq_true,if_false]
 repeat' split
 all_goals omega
theorem LV(d p:Int):Cal.delay d p false true=if 19440<=p∨(d % 7=2/\9924<=p)∨(d % 7=1/\16789<=p)then(if(d % 7+1) % 7=0∨(d % 7+1) % 7=3∨(d % 7+1) % 7=5 then 2 else 1)else(if d % 7=0∨d % 7=3∨d % 7=5 then 1 else 0):=by
 unfold Cal.delay Cal.uX
 simp only [Bool.not_false,Bool.true_and,Bool.and_eq_true,beq_iff_eq,decide_eq_true_eq]
 repeat' split
 all_goals omega
theorem KR(d p:Int):Cal.delay d p false false=if 19440<=p∨(d % 7=2/\9924<=p)then(if(d % 7+1) % 7=0∨(d % 7+1) % 7=3∨(d % 7+1) % 7=5 then 2 else 1)else(if d % 7=0∨d % 7=3∨d % 7=5 then 1 else 0):=by
 unfold Cal.delay Cal.uX
 simp only [Bool.not_false,Bool.true_and,Bool.false_and,Bool.false_eq_true,if_false,Bool.and_eq_true,beq_iff_eq,decide_eq_true_eq]
 repeat' split
 all_goals omega
theorem zO(d p:Int)(w:World)(hd:I64 d)(hp:I64 p):
  Calls Tryo.prog 177 #[.agg #[.int .i64 d,.int .i64 p],.bool true,.bool true] w fun e w'=>e= .returned (.int .i64 (Cal.delay d p true true))/\Below w.heap.size w w':=by
 have HW:=Lib.hid (fun w=>bO d w hd)
 have k0:0<=d % 7:=by omega
 have k1:d % 7<7:=by omega
 go_enter Tryo.func177,Tryz.ntmps177
 go_wp2_with fail
 refine(HW.out _).mono ?_
 rintro e w' ⟨rfl,rfl⟩
 go_wp2_with fail
 all_goals(refine(bO _ _ ⟨by omega,by omega⟩).mono ?_;rintro e w' ⟨rfl,rfl⟩;go_wp2_with fail)
 all_goals go_ret
 all_goals refine⟨GJ ?_,ba _ _⟩
 all_goals go_light
 all_goals rw [LU]
 all_goals(repeat' split)
 all_goals(try simp only [beq_iff_eq,beq_eq_false_iff_ne,ne_eq]at*)
 all_goals omega
theorem Az(d p:Int)(w:World)(hd:I64 d)(hp:I64 p):
  Calls Tryo.prog 177 #[.agg #[.int .i64 d,.int .i64 p],.bool true,.bool false] w fun e w'=>e= .returned (.int .i64 (Cal.delay d p true false))/\Below w.heap.size w w':=by
 have HW:=Lib.hid (fun w=>bO d w hd)
 have k0:0<=d % 7:=by omega
 have k1:d % 7<7:=by omega
 go_enter Tryo.func177,Tryz.ntmps177
 go_wp2_with fail
 refine(HW.out _).mono ?_
 rintro e w' ⟨rfl,rfl⟩
 go_wp2_with fail
 all_goals(refine(bO _ _ ⟨by omega,by omega⟩).mono ?_;rintro e w' ⟨rfl,rfl⟩;go_wp2_with fail)
 all_goals go_ret
 all_goals refine⟨GJ ?_,ba _ _⟩
 all_goals go_light
 all_goals rw [KZ]
 all_goals(repeat' split)
 all_goals(try simp only [beq_iff_eq,beq_eq_false_iff_ne,ne_eq]at*)
 all_goals omega
theorem zT(d p:Int)(w:World)(hd:I64 d)(hp:I64 p):
  Calls Tryo.prog 177 #[.agg #[.int .i64 d,.int .i64 p],.bool false,.bool true] w fun e w'=>e= .returned (.int .i64 (Cal.delay d p false true))/\Below w.heap.size w w':=by
 have HW:=Lib.hid (fun w=>bO d w hd)
 have k0:0<=d % 7:=by omega
 have k1:d % 7<7:=by omega
 go_enter Tryo.func177,Tryz.ntmps177
 go_wp2_with fail
 refine(HW.out _).mono ?_
 rintro e w' ⟨rfl,rfl⟩
 go_wp2_with fail
 all_goals(refine(bO _ _ ⟨by omega,by omega⟩).mono ?_;rintro e w' ⟨rfl,rfl⟩;go_wp2_with fail)
 all_goals go_ret
 all_goals refine⟨GJ ?_,ba _ _⟩
 all_goals go_light
 all_goals rw [LV]
 all_goals(repeat' split)
 all_goals(try simp only [beq_iff_eq,beq_eq_false_iff_ne,ne_eq]at*)
 all_goals omega
theorem zI(d p:Int)(w:World)(hd:I64 d)(hp:I64 p):
  Calls Tryo.prog 177 #[.agg #[.int .i64 d,.int .i64 p],.bool false,.bool false] w fun e w'=>e= .returned (.int .i64 (Cal.delay d p false false))/\Below w.heap.size w w':=by
 have HW:=Lib.hid (fun w=>bO d w hd)
 have k0:0<=d % 7:=by omega
 have k1:d % 7<7:=by omega
 go_enter Tryo.func177,Tryz.ntmps177
 go_wp2_with fail
 refine(HW.out _).mono ?_
 rintro e w' ⟨rfl,rfl⟩
 go_wp2_with fail
 all_goals(refine(bO _ _ ⟨by omega,by omega⟩).mono ?_;rintro e w' ⟨rfl,rfl⟩;go_wp2_with fail)
 all_goals go_ret
 all_goals refine⟨GJ ?_,ba _ _⟩
 all_goals go_light
 all_goals rw [KR]
 all_goals(repeat' split)
 all_goals(try simp only [beq_iff_eq,beq_eq_false_iff_ne,ne_eq]at*)
 all_goals omega
theorem Fv(d p:Int)(lp af:Bool)(w:World)(hd:I64 d)(hp:I64 p):
  Calls Tryo.prog 177 #[.agg #[.int .i64 d,.int .i64 p],.bool lp,.bool af] w fun e w'=>e= .returned (.int .i64 (Cal.delay d p lp af))/\Below w.heap.size w w':=by
 cases lp <;> cases af
 ·exact zI d p w hd hp
 ·exact zT d p w hd hp
 ·exact Az d p w hd hp
 ·exact zO d p w hd hp
end Go.Proofs.YthnjjcoahdhmnaaGreatDoor
namespace Go.Proofs.YthnjjcoahdhmnaaGreatDoor
open Go.ChangeShapes Go.WideShapes Go.ChangeAt Go.RowKit
theorem bdw{a b:World}(h:Below a.heap.size a b):Below a.heap.size a b.drew:=h.drew
theorem Jd(y:Int)(w:World)(h0:0<=y)(h1:y<=10001):
  Calls Tryo.prog 176 #[.int .i64 y,.int .i64 1] w fun e w'=>e= .returned (.tuple #[.agg #[.int .i64 (Cal.bM (Cal.before y)),.int .i64 (Cal.bL (Cal.before y))],.int .i64 0])/\Below w.heap.size w w':=
 Kt y 1 (Cal.before y) w h0 h1 (by omega) (by obtain⟨b1,b2⟩:=zX y;omega) (by omega)
theorem F8(y:Int)(w:World)(h:y<0∨10001<y):
  Calls Tryo.prog 176 #[.int .i64 y,.int .i64 1] w fun e w'=>e= .returned (.tuple #[.agg #[.int .i64 0,.int .i64 0],.int .i64 2])/\Below w.heap.size w w':=by
 have:=M8 y 1 w ⟨by omega,by omega⟩
 rwa [(P7 y 1 h).1,(P7 y 1 h).2.1,(P7 y 1 h).2.2]at this
theorem Ac(y:Int)(w:World)(h0:0<=y)(h1:y<=10001):
  Calls Tryo.prog 102 #[.int .i64 (y-1)] w fun e w'=>(∃k:Int,e= .returned (.tuple #[.bool (Cal.leap (y-1)),.int .i64 k]))/\w=w':=by
 by_cases c:y=0
 ·have:=nD (y-1) w (by omega)
  rw [show Cal.leap (y-1)=false by subst c;decide]
  exact this.mono fun e w' h=>⟨⟨_,h.1⟩,h.2⟩
 ·exact(aT (y-1) w (by omega) (by omega)).mono fun e w' h=>⟨⟨_,h.1⟩,h.2⟩
theorem SQ(y:Int)(h0:0<=y)(h1:y<=10001):Cal.nK y=Cal.bM (Cal.before y)+Cal.delay (Cal.bM (Cal.before y)) (Cal.bL (Cal.before y)) (Cal.leap y) (Cal.leap (y-1))/\Cal.dR y=0:=by
 rw [Cal.nK,Cal.dR,dS y h0 h1];exact⟨rfl,rfl⟩
theorem M0(y:Int)(h:y<0∨10001<y):Cal.nK y=0/\Cal.dR y=2:=by rw [Cal.nK,Cal.dR,kF y h];exact⟨rfl,rfl⟩
theorem MU(d p:Int)(lp af:Bool):0<=Cal.delay d p lp af/\Cal.delay d p lp af<=2:=by
 cases lp <;> cases af
 ·rw [KR];repeat' split
  all_goals omega
 ·rw [LV];repeat' split
  all_goals omega
 ·rw [KZ];repeat' split
  all_goals omega
 ·rw [LU];repeat' split
  all_goals omega
theorem Gx(y:Int)(w:World)(hy:I64 y):
  Calls Tryo.prog 106 #[.int .i64 y] w fun e w'=>e= .returned (.tuple #[.int .i64 (Cal.nK y),.int .i64 (Cal.dR y)])/\Below w.heap.size w w':=by
 by_cases c:0<=y/\y<=10001
 ·obtain⟨c1,c2⟩:=c
  have HS:=Lib.hid (SQ y c1 c2)
  obtain⟨b3,b4⟩:=jC y c1 c2
  obtain⟨b5,b6⟩:=Eb (Cal.before y) (by omega) (by omega)
  obtain⟨b7,b8⟩:=Ma (Cal.before y)
  obtain⟨b1,b2⟩:=MU (Cal.bM (Cal.before y)) (Cal.bL (Cal.before y)) (Cal.leap y) (Cal.leap (y-1))
  have HD:=Lib.hid (fun w=>Fv (Cal.bM (Cal.before y)) (Cal.bL (Cal.before y)) (Cal.leap y) (Cal.leap (y-1)) w ⟨by omega,by omega⟩ ⟨by omega,by omega⟩)
  go_enter Tryo.func106,Tryz.ntmps106
  go_wp2_with fail
  refine(Jd y _ c1 c2).mono ?_
  rintro e w1 ⟨rfl,hb1⟩
  obtain⟨hc1,hf1⟩:=aA hb1
  have hz1:=hb1.size
  try simp at hz1
  go_wp2_with fail
  refine(aT y _ c1 c2).mono ?_
  rintro e w' ⟨rfl,rfl⟩
  go_wp2_with fail
  refine(Ac y _ c1 c2).mono ?_
  rintro e w' ⟨⟨kk,rfl⟩,rfl⟩
  go_wp2_with fail
  go_region_held3 (fun x=>x.cell? ⟨w1.heap.size,0,none⟩=some (.int .i64 (Cal.bM (Cal.before y)))/\x.cell? ⟨w1.heap.size,1,none⟩=some (.int .i64 (Cal.bL (Cal.before y)))) (go_keep)
   (first|(go_at_call 177;refine(HD.out _).mono ?_;rintro e w2 ⟨rfl,hb2⟩;obtain⟨hc2,hf2⟩:=aA hb2))
  all_goals go_wp2_with fail
  all_goals go_ret2
  all_goals exact⟨aS ((IntWalk.i64_in _ ⟨by omega,by omega⟩).trans HS.out.1.symm) HS.out.2.symm,bt (bdw (baa hb1 _)) hb2⟩
 ·have HS:=Lib.hid (M0 y (by omega))
  go_enter Tryo.func106,Tryz.ntmps106
  go_wp2_with fail
  refine(F8 y _ (by omega)).mono ?_
  rintro e w1 ⟨rfl,hb1⟩
  obtain⟨hc1,hf1⟩:=aA hb1
  have hz1:=hb1.size
  try simp at hz1
  go_wp2_with fail
  go_ret2
  exact⟨aS HS.out.1.symm HS.out.2.symm,baa hb1 _⟩
theorem jW(y:Int)(w:World)(h0:0<=y)(h1:y<=10001):
  Calls Tryo.prog 106 #[.int .i64 y] w fun e w'=>e= .returned (.tuple #[.int .i64 (Cal.first y),.int .i64 0])/\Below w.heap.size w w':=by
 have:=Gx y w ⟨by omega,by omega⟩
 rwa [Cal.nK,Cal.dR,dS y h0 h1,if_pos rfl,if_pos rfl]at this
theorem iT(y:Int)(h0:0<=y)(h1:y<=10001): -7300000<=Cal.first y/\Cal.first y<=4600002:=by
 obtain⟨b3,b4⟩:=jC y h0 h1
 obtain⟨b5,b6⟩:=Eb (Cal.before y) (by omega) (by omega)
 obtain⟨b1,b2⟩:=MU (Cal.bM (Cal.before y)) (Cal.bL (Cal.before y)) (Cal.leap y) (Cal.leap (y-1))
 unfold Cal.first
 omega
end Go.Proofs.YthnjjcoahdhmnaaGreatDoor
